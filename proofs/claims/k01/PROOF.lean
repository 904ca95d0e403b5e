import PyProof.Rows.All
import Wide.All
import OpenK.AllK
import Wide.FinOn
import HandS.ForMost
import HandS.ForExc
import HandS.ExcInit
import HandS.ExcIs
import HandS.IsInst
import HandS.Steps
import HandS.TupMul
import HandS.TupAny
import HandS.SortInts
import HandS.Defaults
import HandS.HeadHook3
import HandS.HeadHook4
import HandS.HeadEnd
import HandS.Head2
import PySem.Challenge.RW_ringbound_k01_cells
set_option Elab.async false
set_option linter.all false
set_option maxRecDepth 100000
set_option maxHeartbeats 0
/-! The layer of this program: rules that the hand layer lacks. -/
namespace Rb
open PySem PySem.Spec PyProof.Rows L2

section
variable {X : Cx} {x m : Str} {C f : Addr} {CX : CXT} {k : Nat} {fd : FuncData} {ps : List Str} {sp : Sp} {ds : List Value} {dvs : List V} {E : XK}
  {e : Expr} {es : List Expr} {t : TA} {p1 p2 pos : Pos} {mc : Value}

/-- what is read of a class: the function that stands under a name -/
structure ClsFn (K : PySem.W.Frag) (C : Addr) (mc : Value) (m : Str) (f : Addr) : Prop where
  rd : PySem.W.readsIn K C mc = true
  ga : PySem.W.specialIn K (.ref C) "__getattribute__" = some (some (.builtin "type.__getattribute__"))
  fn : PySem.W.findCls K (.ref C) mc m = some (.val (.ref f))
  kp : PySem.W.keepIn K (.ref f) = true

/-- Base.m(e, ..): a def called off its class -/
theorem pe_clsfn {pl : Sem Bool} (c : ClsFn X.K C mc m f) (F : FnOk X.prog X.w X.K X.mg X.base CX k f fd ps sp) (hr : Room k X.A)
    (hg : Gl X x) (hm : X.mg x = some (.ref C)) (hb : Binds X.K fd ps ds) (hd : Vals dvs ds) (hx : Passes CX X E) (hP : PA X (e :: es) t)
    (hc : eval (.Call (.Attribute (.Name x p1) m p2) (e :: es) [] pos) X.env = (do
      let ov ← eval (.Name x p1) X.env
      standAt p2.atName
      let (g, first) ← holding [ov] (getMethod ov m pl)
      callWith pos g first (backTo pos (starEach (e :: es) X.env)) (backToKw pos (keywordEach [] X.env))) := by rfl)
    (hs1 : starEach (e :: es) X.env = (false, eval e X.env) :: starEach es X.env := by rfl)
    (hs2 : (backTo pos (starEach es X.env)).any (·.1) = false := by rfl) (hdb : (x == ("__debug__" : Str)) = false := by decide) :
    PE X (.Call (.Attribute (.Name x p1) m p2) (e :: es) [] pos) (tCall sp dvs E t) := by
  refine ⟨fun pins s σ H Q I hw => ?_⟩
  refine PySem.W.methodCall_KW (ld_glob I hg hm ?_ hdb) hc
  refine PySem.W.method_cls I.kIn c.ga ?_
  refine PySem.W.cls_value I.kIn c.rd c.fn rfl ?_
  refine PySem.W.callWith_K (h₀ := X.base) I.ok.mod.kin c.kp ?_ hs1 hs2
  refine thn (hP.run pos pins _ σ H _ (I.tok _) hw) fun us s1 hh => ?_
  obtain ⟨vs, H1, I1, r, q⟩ := hh
  exact ⟨I1.kIn, run_fn F hr hb hd hx I1 r q⟩
end

/-! ### an exception whose __init__ leaves nothing -/
section
variable {X : Cx} {pins : List (Addr × Obj)} {σ : L2.St}
theorem bare_end {H1 : Hp} {hp hp2 h2 : Heap} {g1 g2 : Array GenState} {d1 d2 : Drawn} {t1 t2 : Nat} {os1 os2 : OsState} {a C : Addr}
    (I1 : Inv X pins σ H1 ⟨hp, g1, d1, t1, os1⟩) (ha : hp.objs.size ≤ a) (kk : ∀ b o, hp.get? b = some o → hp2.get? b = some o)
    (un : Un (frs X.stack) [] (upd H1 a (exo a C none)) (upd H1 a (exo a C none)) hp2 h2)
    (hok : HOk X.prog X.w (upd H1 a (exo a C none)) h2) (ho : os2 = os1) (hb : AllBare g2) :
    ∃ (t0 : Addr) (G : Heap), Inv X pins σ H1 ⟨G, g2, d2, t2, os2⟩ ∧ (∀ b o, G.get? b = some o → h2.get? b = some o) ∧
      G.get? a = none ∧ H1 a = none ∧
      h2.get? a = some ({ cls := .ref C, dict := none, data := .fields #[.ref t0, .none, .none, .none, .bool false, .none] } : Obj) := by
  have na : H1 a = none := I1.hok.fresh ha
  have ea : upd H1 a (exo a C none) a = some (exo a C none) := upd_same
  obtain ⟨t0, hoe⟩ := exo_at hok ea
  obtain ⟨G, gin, gout⟩ := restrict h2 fun b => decide (b ≠ a)
  have gk : ∀ b, b ≠ a → G.get? b = h2.get? b := fun b q => gin b (decide_eq_true q)
  have ge : G.get? a = none := gout a (by simp)
  have old : ∀ {b : Addr} {o : Obj}, hp.get? b = some o → b ≠ a := fun z => Nat.ne_of_lt (Nat.lt_of_lt_of_le (Heap.lt_size z) ha)
  have trk : ∀ {b : Addr} {o : HO}, H1 b = some o → b ≠ a := fun {b o} z q => by
    rw [q, na] at z
    cases z
  have U : Un (frs X.stack) [] H1 H1 hp G := by
    constructor
    · intro b o z n q1 q2
      rw [gk b (old z)]
      exact un.keep b o (kk b o z) (by rw [upd_ne (old z)]; exact n) q1 q2
    · intro b o z n q1 q2
      rw [gk b (old z)]
      exact un.slot b o (kk b o z) (by rw [upd_ne (old z)]; exact n) q1 q2
    · intro b o z n q2
      exact n
    · intro b o z q2
      rw [gk b (old z)]
      exact un.there b o (kk b o z) q2
    · intro b xs z
      exact z
    · intro b o u z
      exact z
    · intro b ps z
      exact ⟨#[], by rw [z]; simp⟩
  have ok3 : HOk X.prog X.w H1 G := by
    intro b o z
    have nb := trk z
    have y := hok b o (by rw [upd_ne nb]; exact z)
    refine y.stay (fun c v hc r => ?_) (fun c r => ?_) (fun c xs r => ?_)
    · have nc : c ≠ a := by
        rcases hc with q | q
        · rw [q]
          exact nb
        · exact at_ne ea q exo_own
      rw [gk c nc]
      exact r
    · rw [upd_ne (at_ne ea r exo_own)] at r
      exact r
    · rw [upd_ne (at_ne ea r exo_tup)] at r
      exact r
  have J : Inv X pins σ H1 ⟨G, g2, d2, t2, os2⟩ := I1.call' (ch := []) ho U ok3 hb (fun b z => absurd z (by simp))
  refine ⟨t0, G, J, fun b o z => ?_, ge, na, hoe⟩
  by_cases q : b = a
  · rw [q, ge] at z
    cases z
  · rw [← gk b q]
    exact z

/-- C() where C's __init__ does no more than its base's -/
theorem pmk_bare0 {CX : CXT} {x : Str} {C fI : Addr} {k : Nat} {fd : FuncData} {ps : List Str} {sp : Sp} {pos p : Pos} (T : OexC X.K C)
    (iC : PySem.W.findIn X.K (.ref C) "__init__" = some (some (.ref fI))) (tI : PySem.W.typeIn X.K (.ref fI) = some (.type "function"))
    (F1 : FnOk X.prog X.w X.K X.mg X.base CX k fI fd ps sp) (hr : Room (k + 1) X.A) (hb : L2.Binds X.K fd ps [])
    (hx : Passes CX X (fun _ _ _ => False)) (hg : Gl X x) (hm : X.mg x = some (.ref C)) (hdb : (x == ("__debug__" : Str)) = false := by decide) :
    PMk X (.Call (.Name x p) [] [] pos) (fun _ H Q => (∀ a, H a = none → sp [.ref a] (upd H a (exo a C none)) (fun v H2 => v = .non ∧ H2 = upd H a (exo a C none)) (fun _ _ _ => False)) ∧ Q (.ref C) none H) := by
  intro pins s σ H Q I hw
  obtain ⟨nm, q, N, bs, bm, sn, sub, ab, col, dd, k0, k1, k2, k3, k5, hC, hbm⟩ := T.cls
  refine wpAny_Call_Name_kw (ld_glob I hg hm ?_ hdb)
  refine PySem.W.callWith_K0 I.kIn T.kC ?_
  show wpAny _ _ (call (.ref C) []) _ _ _
  obtain ⟨hp, g, dr, tk, os⟩ := s
  have hsz : hp.objs.size ≤ hp.objs.size + 1 := Nat.le_succ _
  have hn : H (hp.objs.size + 1) = none := I.hok.fresh hsz
  obtain ⟨hw1, hw2⟩ := hw
  have hq := hw1 (hp.objs.size + 1) hn
  have kk : ∀ b o, hp.get? b = some o → ((hp.push (PySem.W.kdv_tup [])).push (PySem.HandSPX.excO C hp.objs.size)).get? b = some o := fun b o z =>
    Heap.get?_push_of_some _ (Heap.get?_push_of_some _ z)
  have hget : ((hp.push (PySem.W.kdv_tup [])).push (PySem.HandSPX.excO C hp.objs.size)).get? (hp.objs.size + 1) = some (PySem.HandSPX.excO C hp.objs.size) := by heap_get
  have I2 := I.laid (t' := tk) (a := hp.objs.size + 1) (o := exo (hp.objs.size + 1) C none) kk hsz (exo_ok hget)
  have r2 : Vals [V.ref (hp.objs.size + 1)] [Value.ref (hp.objs.size + 1)] := .cons rfl .nil
  have lb := hb _ [Value.ref (hp.objs.size + 1)] I2.kIn (F1.len _ _ _ _ hq)
  refine wpAny_call (PySem.HandSPX.call_own F.excBase_ValueError (fun Y => PySem.HandSPX.refsVE_contains Y bm hbm) (I.kIn _ _ hC) (PySem.W.looks_findIn I.kIn iC)
    (fun self => PySem.W.bind_fn I.kIn self tI) (Nat.zero_le _)
    (codeAny_mono (F1.run _ X.stack _ _ ⟨[Value.ref (hp.objs.size + 1)], []⟩ [Value.ref (hp.objs.size + 1)] _ _ (fun _ _ _ => False) (hr.make C [] []) (I2.env0.make C [] []) lb r2 hq)
      fun r s' hq' => ?_))
  cases r with
  | error er => exact hx pins σ _ _ er s' I2 hq'
  | ok fl =>
    cases fl with
    | ret u =>
      obtain ⟨v, H2, os2, bare2, un2, hok2, rv, ev, eH⟩ := hq'
      subst ev
      subst eH
      obtain ⟨h2, g2, d2, t2, os'⟩ := s'
      obtain ⟨t0, G, J, kG, ge, na, hoe⟩ := bare_end (d2 := d2) (t2 := t2) I hsz kk un2 hok2 os2 bare2
      exact ⟨rv, ⟨_, _, _, ⟨G, g2, d2, t2, os'⟩, H, .ref C, none, rfl, J, kG, ge, hoe, ⟨rfl, rfl⟩, rfl, rfl, na, rfl, bare2, raises_own T.exC T.tyC, hw2⟩⟩
    | next => exact False.elim hq'
    | brk => exact False.elim hq'
    | cont => exact False.elim hq'
end
/-! ### defs by what they keep -/
/-- the def at f keeps sp; CX: what it may let out -/
structure FnC (P : Program) (w : World) (K : PySem.W.Frag) (mg : Str → Option Value) (base : Heap) (CX : CXT) (k : Nat) (f : Addr) (sp : Sp) : Prop where
  ex : ∃ (fd : FuncData) (ps : List Str), FnOk P w K mg base CX k f fd ps sp ∧ L2.Binds K fd ps [] ∧ PySem.W.keepIn K (.ref f) = true
section
variable {P : Program} {w : World} {K : PySem.W.Frag} {mg : Str → Option Value} {base : Heap}
theorem FnC.imp {CX : CXT} {k : Nat} {f : Addr} {sp sp' : Sp} (c : FnC P w K mg base CX k f sp) (h : ∀ vs H Q E, sp' vs H Q E → sp vs H Q E) : FnC P w K mg base CX k f sp' := by
  obtain ⟨fd, ps, F, b, kp⟩ := c.ex
  exact ⟨fd, ps, F.imp h, b, kp⟩
theorem fnc {CX : CXT} {x qual : Str} {params : Arguments} {body : List Stmt} {scope : Scope} {kws : List (Str × V)} {f : Addr} {N ps : List Str} {k : Nat} {sp : Sp}
    (F : ∃ fd, FunD K x qual params body scope [] kws f fd) (S : FnScope N ps scope)
    (bd : ∀ (kV doc pm : Value) (an : Option Addr) (cdv ct : Value) (us : List Value), us.length = ps.length → bindArgs (PySem.W.fnOf x qual params body scope .none kV doc pm an cdv ct) ⟨us, []⟩ = pure (ps.zip us))
    (len : ∀ vs H Q E, sp vs H Q E → vs.length = ps.length)
    (hb : ∀ (cdv : Value) (A : Around) (outer : List Env) (s : Shared) (H : Hp) (vs : List V) (Q : VK) (E : XK), Room k (A.deeper (envOfC qual scope s.heap.objs.size f cdv)) → sp vs H Q E →
      ∃ t, PSs (cxOf CX P w K mg base N qual scope f cdv A outer s H E) body t ∧ t { nx := fun _ H' => Q .non H', rt := Q } (start N vs) H) : FnC P w K mg base CX (k + 1) f sp := by
  obtain ⟨fd, F⟩ := F
  exact ⟨fd, ps, F.ok S len hb, F.bindsN bd, F.kp⟩
/-- a def that lets nothing out -/
theorem fnc0 {x qual : Str} {params : Arguments} {body : List Stmt} {scope : Scope} {kws : List (Str × V)} {f : Addr} {N ps : List Str} {k : Nat} {sp : Sp}
    (F : ∃ fd, FunD K x qual params body scope [] kws f fd) (S : FnScope N ps scope)
    (bd : ∀ (kV doc pm : Value) (an : Option Addr) (cdv ct : Value) (us : List Value), us.length = ps.length → bindArgs (PySem.W.fnOf x qual params body scope .none kV doc pm an cdv ct) ⟨us, []⟩ = pure (ps.zip us))
    (len : ∀ vs H Q E, sp vs H Q E → vs.length = ps.length)
    (hb : ∀ (cdv : Value) (A : Around) (outer : List Env) (s : Shared) (H : Hp) (vs : List V) (Q : VK) (E : XK), Room k (A.deeper (envOfC qual scope s.heap.objs.size f cdv)) → sp vs H Q E →
      ∃ t, PSs (cxOf CX0 P w K mg base N qual scope f cdv A outer s H E).nox body t ∧ t { nx := fun _ H' => Q .non H', rt := Q } (start N vs) H) : FnC P w K mg base CX0 (k + 1) f sp :=
  fnc F S bd len fun cdv A outer s H vs Q E hr h => by
    obtain ⟨t, h1, h2⟩ := hb cdv A outer s H vs Q E hr h
    exact ⟨t, h1.nox, h2⟩
end
section
variable {X : Cx} {x m : Str} {C f : Addr} {CX : CXT} {k j : Nat} {sp : Sp} {E : XK} {ES : L2.St → XK} {e o : Expr} {es : List Expr} {t : TA} {ta : TE} {p apos pos : Pos}
theorem pe_f (c : FnC X.prog X.w X.K X.mg X.base CX k f sp) (hr : Room j X.A) (hk : k ≤ j) (hg : Gl X x) (hm : X.mg x = some (.ref f)) (hx : Passes CX X E) (ha : PA X (e :: es) t)
    (hdb : (x == ("__debug__" : Str)) = false := by decide) (h1 : starEach (e :: es) X.env = (false, eval e X.env) :: starEach es X.env := by rfl) (h2 : (backTo pos (starEach es X.env)).any (·.1) = false := by rfl) :
    PE X (.Call (.Name x p) (e :: es) [] pos) (tCall sp [] E t) := by
  obtain ⟨fd, ps, F, b, kp⟩ := c.ex
  exact pe_call F (hr.mono hk) hg hm kp b .nil hx ha hdb h1 h2
theorem pe_f0 (c : FnC X.prog X.w X.K X.mg X.base CX k f sp) (hr : Room j X.A) (hk : k ≤ j) (hg : Gl X x) (hm : X.mg x = some (.ref f)) (hx : Passes CX X E)
    (hdb : (x == ("__debug__" : Str)) = false := by decide) : PE X (.Call (.Name x p) [] [] pos) (tCall sp [] E tNil) := by
  obtain ⟨fd, ps, F, b, kp⟩ := c.ex
  exact pe_call0 F (hr.mono hk) hg hm kp b .nil hx hdb
/-- .. where what is raised is wished for at the slots -/
theorem pe_fS (c : FnC X.prog X.w X.K X.mg X.base CX k f sp) (hr : Room j X.A) (hk : k ≤ j) (hg : Gl X x) (hm : X.mg x = some (.ref f)) (hx : ∀ σ, PassesAt CX X σ (ES σ)) (ha : PA X (e :: es) t)
    (hdb : (x == ("__debug__" : Str)) = false := by decide) (h1 : starEach (e :: es) X.env = (false, eval e X.env) :: starEach es X.env := by rfl) (h2 : (backTo pos (starEach es X.env)).any (·.1) = false := by rfl) :
    PE X (.Call (.Name x p) (e :: es) [] pos) (tCallS sp ES t) := by
  obtain ⟨fd, ps, F, b, kp⟩ := c.ex
  exact pe_callS F (hr.mono hk) hg hm kp b hx ha hdb h1 h2
theorem pe_m {pl : Sem Bool} (c : FnC X.prog X.w X.K X.mg X.base CX k f sp) (hr : Room j X.A) (hk : k ≤ j) (hc : Cls X.K C) (hm : Meth X.K C m f) (hx : Passes CX X E) (ho : PE X o ta) (ha : PA X (e :: es) t)
    (h1 : starEach (e :: es) X.env = (false, eval e X.env) :: starEach es X.env := by rfl) (h2 : (backTo pos (starEach es X.env)).any (·.1) = false := by rfl)
    (h3 : eval (.Call (.Attribute o m apos) (e :: es) [] pos) X.env = (do
      let ov ← eval o X.env
      standAt apos.atName
      let (g, first) ← holding [ov] (getMethod ov m pl)
      callWith pos g first (backTo pos (starEach (e :: es) X.env)) (backToKw pos (keywordEach [] X.env))) := by rfl) :
    PE X (.Call (.Attribute o m apos) (e :: es) [] pos) (tMeth C m sp [] E ta t) := by
  obtain ⟨fd, ps, F, b, kp⟩ := c.ex
  exact pe_meth (pl := pl) ho hc hm F (hr.mono hk) b .nil hx ha h1 h2 h3
theorem pe_m0 {pl : Sem Bool} (c : FnC X.prog X.w X.K X.mg X.base CX k f sp) (hr : Room j X.A) (hk : k ≤ j) (hc : Cls X.K C) (hm : Meth X.K C m f) (hx : Passes CX X E) (ho : PE X o ta)
    (h3 : eval (.Call (.Attribute o m apos) [] [] pos) X.env = (do
      let ov ← eval o X.env
      standAt apos.atName
      let (g, first) ← holding [ov] (getMethod ov m pl)
      callWith pos g first (backTo pos (starEach [] X.env)) (backToKw pos (keywordEach [] X.env))) := by rfl) :
    PE X (.Call (.Attribute o m apos) [] [] pos) (tMeth C m sp [] E ta tNil) := by
  obtain ⟨fd, ps, F, b, kp⟩ := c.ex
  exact pe_meth0 (pl := pl) ho hc hm F (hr.mono hk) b .nil hx h3
theorem pe_k0 (c : FnC X.prog X.w X.K X.mg X.base CX k f sp) (hr : Room j X.A) (hk : k + 1 ≤ j) (hg : Gl X x) (hm : X.mg x = some (.ref C)) (M : Mk X.K C f) (hx : Passes CX X E) (hdb : (x == ("__debug__" : Str)) = false := by decide) :
    PE X (.Call (.Name x p) [] [] pos) (tMake C sp [] E tNil) := by
  obtain ⟨fd, ps, F, b, kp⟩ := c.ex
  exact pe_make0 M F (hr.mono hk) hg hm b .nil hx hdb
theorem pe_k (c : FnC X.prog X.w X.K X.mg X.base CX k f sp) (hr : Room j X.A) (hk : k + 1 ≤ j) (hg : Gl X x) (hm : X.mg x = some (.ref C)) (M : Mk X.K C f) (hx : Passes CX X E) (ha : PA X (e :: es) t)
    (hdb : (x == ("__debug__" : Str)) = false := by decide) (h1 : starEach (e :: es) X.env = (false, eval e X.env) :: starEach es X.env := by rfl) (h2 : (backTo pos (starEach es X.env)).any (·.1) = false := by rfl) :
    PE X (.Call (.Name x p) (e :: es) [] pos) (tMake C sp [] E t) := by
  obtain ⟨fd, ps, F, b, kp⟩ := c.ex
  exact pe_make M F (hr.mono hk) hg hm b .nil hx ha hdb h1 h2
/-- o.m(e, ..) where what is raised is wished for at the slots -/
def tMethAt (C : Addr) (m : Str) (sp : Sp) (ES : L2.St → XK) (ta : TE) (t : TA) : TE := fun σ H Q => ta σ H fun x H1 => ∃ a dx fs, x = .ref a ∧ H1 a = some (.ins C dx fs) ∧ fs.lookup m = none ∧ t σ H1 fun vs H2 => sp (x :: vs) H2 Q (ES σ)
theorem pe_mS {pl : Sem Bool} (c : FnC X.prog X.w X.K X.mg X.base CX k f sp) (hr : Room j X.A) (hk : k ≤ j) (hc : Cls X.K C) (hm : Meth X.K C m f) (hx : ∀ σ, PassesAt CX X σ (ES σ)) (ho : PE X o ta) (hA : PA X (e :: es) t)
    (h1 : starEach (e :: es) X.env = (false, eval e X.env) :: starEach es X.env := by rfl) (h2 : (backTo pos (starEach es X.env)).any (·.1) = false := by rfl)
    (h3 : eval (.Call (.Attribute o m apos) (e :: es) [] pos) X.env = (do
      let ov ← eval o X.env
      standAt apos.atName
      let (g, first) ← holding [ov] (getMethod ov m pl)
      callWith pos g first (backTo pos (starEach (e :: es) X.env)) (backToKw pos (keywordEach [] X.env))) := by rfl) :
    PE X (.Call (.Attribute o m apos) (e :: es) [] pos) (tMethAt C m sp ES ta t) := by
  obtain ⟨fd, ps, F, b, kp⟩ := c.ex
  refine ⟨fun pins s σ H Q I hw => ?_⟩
  refine PySem.W.methodCall_KW (pl := pl) (thn (ho.run pins s σ H _ I hw) fun u s1 hh => ?_) h3
  obtain ⟨y, H1, I1, ry, a, dx, fs, ey, ea, l, q⟩ := hh
  subst ey
  obtain rfl : u = Value.ref a := ry
  refine getmeth_ok I1 ea hc hm l ?_
  refine PySem.W.callWith_K (first := [.ref a]) (h₀ := X.base) I.ok.mod.kin hm.kp (thn (hA.run pos pins s1 σ H1 _ I1 q) fun us s2 hh => ?_) h1 h2
  obtain ⟨vs, H2, I2, r, q2⟩ := hh
  exact ⟨I2.kIn, run_fnS (us := .ref a :: us) (vs := .ref a :: vs) F (hr.mono hk) b (hx σ) I2 (.cons rfl r) q2⟩
/-- isinstance(e, C) of a caught exception, whatever its class -/
theorem pe_isX {a D : Addr} {oe : Obj} {pn : List (Addr × Obj)} {cls : Value} {d : Option Addr} (CD : ExcC X.K D) (hz : Zc cls d oe) (hf : ∃ vs, oe.data = .fields vs)
    (hg : Gl (X.suite a ((a, oe) :: pn)) "isinstance") (hm : X.mg "isinstance" = none) (hv : bootBuiltins "isinstance" = some (.builtin "isinstance")) (ha : PA (X.suite a ((a, oe) :: pn)) (e :: es) t)
    (h1 : starEach (e :: es) (X.suite a ((a, oe) :: pn)).env = (false, eval e (X.suite a ((a, oe) :: pn)).env) :: starEach es (X.suite a ((a, oe) :: pn)).env := by rfl) (h2 : (backTo pos (starEach es (X.suite a ((a, oe) :: pn)).env)).any (·.1) = false := by rfl) :
    PE (X.suite a ((a, oe) :: pn)) (.Call (.Name "isinstance" p) (e :: es) [] pos) (fun σ H Q => cls = .ref D ∧ d = none ∧ tCB (rIsE X.K D a) t σ H Q) := by
  refine ⟨fun pins s σ H Q I hw => ?_⟩
  obtain ⟨rfl, rfl, hw⟩ := hw
  exact (pe_callB (call_isE CD hz hf) hg hm hv ha (he := h1) (hpl := h2)).run pins s σ H Q I hw
end

/-! ### facts of the top beyond those of the hooks -/
/-- an exception class whose __init__ is its own -/
def oexB (K : PySem.W.Frag) (C : Addr) : Bool := match K.lookup C with
  | some ⟨.type t, _, .cls cd, sl⟩ => decide (t = "type") && (match cd.mro, sl.toList with
    | .ref D :: bm, [_, _, _, _, some (.builtin n), _] => decide (D = C) && (decide (n = "ValueError.__new__") && (!cd.hasDel && (cd.hasDict && PySem.HandSPX.refsVE bm)))
    | _, _ => false)
  | _ => false
theorem and2 {a b : Bool} (h : (a && b) = true) : a = true ∧ b = true := Bool.and_eq_true_iff.mp h
theorem oexB_ok {K : PySem.W.Frag} {C : Addr} (h : oexB K C = true) :
    ∃ nm q N bs bm sn sub ab col dd k0 k1 k2 k3 k5, K.lookup C = some (excClassObj nm q C N bs bm true sn sub ab col dd k0 k1 k2 k3 k5 "ValueError.__new__") ∧ PySem.HandSPX.refsVE bm = true := by
  unfold oexB at h
  split at h
  · rename_i t dd cd sl hl
    obtain ⟨h0, h⟩ := and2 h
    split at h
    · rename_i D bm k0 k1 k2 k3 n k5 e1 e2
      obtain ⟨h1, h⟩ := and2 h
      obtain ⟨h2, h⟩ := and2 h
      obtain ⟨h3, h⟩ := and2 h
      obtain ⟨h4, h5⟩ := and2 h
      have q0 : t = "type" := of_decide_eq_true h0
      have q1 : D = C := of_decide_eq_true h1
      have q2 : n = "ValueError.__new__" := of_decide_eq_true h2
      subst q0 q1 q2
      obtain ⟨nm, bs, mro, ns, qn, hd, sn, sub, ab, col, dl⟩ := cd
      dsimp only at e1 h3 h4
      subst e1
      subst h4
      have h3' : dl = false := by
        cases dl
        · rfl
        · cases h3
      subst h3'
      obtain ⟨l⟩ := sl
      have e3 : l = [k0, k1, k2, k3, some (.builtin "ValueError.__new__"), k5] := e2
      subst e3
      exact ⟨nm, qn, ns, bs, bm, sn, sub, ab, col, dd, k0, k1, k2, k3, k5, hl, h5⟩
    · cases h
  · cases h
inductive Ex where
  | oex (x : Str) | ity (x m : Str) | clf (x m : Str) | exi (x : Str) | kit (x y : Str) (b : Bool) | vei | tup (x : Str) (vs : List He.Dv)
def Ex.ok (K : PySem.W.Frag) : Ex → Bool
  | .oex x => oexB K (He.ga K x) && (He.eqO (PySem.W.findIn K (.ref (He.ga K x)) "__setattr__") (some (some (.builtin "object.__setattr__"))) &&
      (decide (PySem.W.subIn K (.ref (He.ga K x)) (.type "BaseException") = some true) && (decide (PySem.W.typeIn K (.ref (He.ga K x)) = some (.type "type")) && PySem.W.keepIn K (.ref (He.ga K x)))))
  | .ity x m => He.eqO (PySem.W.findIn K (.ref (He.ga K x)) m) (some (some (.ref (He.ma K (He.ga K x) m)))) && decide (PySem.W.typeIn K (.ref (He.ma K (He.ga K x) m)) = some (.type "function"))
  | .clf x m => PySem.W.readsIn K (He.ga K x) (.type "type") && (He.eqO (PySem.W.specialIn K (.ref (He.ga K x)) "__getattribute__") (some (some (.builtin "type.__getattribute__"))) &&
      ((match PySem.W.findCls K (.ref (He.ga K x)) (.type "type") m with | some (.val (.ref f)) => decide (f = He.ma K (He.ga K x) m) | _ => false) && PySem.W.keepIn K (.ref (He.ma K (He.ga K x) m))))
  | .exi x => He.eqO (PySem.W.findIn K (.ref (He.ga K x)) "__getattribute__") (some (some (.builtin "BaseException.__getattribute__"))) && (He.eqO (PySem.W.findIn K (.ref (He.ga K x)) "__getattr__") (some none) &&
      (decide (PySem.W.subIn K (.ref (He.ga K x)) (.type "BaseException") = some true) && (PySem.W.hasDictIn K (He.ga K x) && (He.eqO (PySem.W.findIn K (.ref (He.ga K x)) "__class__") (some (some (.builtin "object.__class__"))) &&
      (He.eqO (PySem.W.specialIn K (.builtin "object.__class__") "__get__") (some (some (.builtin "getset_descriptor.__get__"))) && (decide (PySem.W.takesIn K (.builtin "object.__class__") = some true) && decide (PySem.W.mroIn K (He.ga K x) (.type "object") = some true)))))))
  | .kit x y b => decide (PySem.W.kitOne K (.ref (He.ga K x)) (.ref (He.ga K y)) = some b)
  | .vei => (match PySem.W.findCls K (.type "ValueError") (.type "type") "__init__" with | some (.val (.builtin n)) => decide (n = "ValueError.__init__") | _ => false)
  | .tup x vs => He.tupB K x vs
section
variable {K : PySem.W.Frag} {x y m : Str} {b : Bool}
theorem oex_ok (c : (Ex.oex x).ok K = true) : OexC K (He.ga K x) := by
  obtain ⟨c1, c⟩ := and2 c
  obtain ⟨c2, c⟩ := and2 c
  obtain ⟨c3, c⟩ := and2 c
  obtain ⟨c4, c5⟩ := and2 c
  exact ⟨oexB_ok c1, He.eqO_ok c2, of_decide_eq_true c3, of_decide_eq_true c4, c5⟩
theorem ity_ok (c : (Ex.ity x m).ok K = true) : PySem.W.findIn K (.ref (He.ga K x)) m = some (some (.ref (He.ma K (He.ga K x) m))) ∧ PySem.W.typeIn K (.ref (He.ma K (He.ga K x) m)) = some (.type "function") := by
  obtain ⟨c1, c2⟩ := and2 c
  exact ⟨He.eqO_ok c1, of_decide_eq_true c2⟩
theorem clf_ok (c : (Ex.clf x m).ok K = true) : ClsFn K (He.ga K x) (.type "type") m (He.ma K (He.ga K x) m) := by
  obtain ⟨c1, c⟩ := and2 c
  obtain ⟨c2, c⟩ := and2 c
  obtain ⟨c3, c4⟩ := and2 c
  refine ⟨c1, He.eqO_ok c2, ?_, c4⟩
  split at c3
  · rename_i f hf
    rw [hf, of_decide_eq_true c3]
  · cases c3
theorem exi_ok (c : (Ex.exi x).ok K = true) : ExcC K (He.ga K x) := by
  obtain ⟨c1, c⟩ := and2 c
  obtain ⟨c2, c⟩ := and2 c
  obtain ⟨c3, c⟩ := and2 c
  obtain ⟨c4, c⟩ := and2 c
  obtain ⟨c5, c⟩ := and2 c
  obtain ⟨c6, c⟩ := and2 c
  obtain ⟨c7, c8⟩ := and2 c
  exact ⟨He.eqO_ok c1, He.eqO_ok c2, of_decide_eq_true c3, c4, He.eqO_ok c5, He.eqO_ok c6, of_decide_eq_true c7, of_decide_eq_true c8⟩
theorem kit_ok (c : (Ex.kit x y b).ok K = true) : PySem.W.kitOne K (.ref (He.ga K x)) (.ref (He.ga K y)) = some b := of_decide_eq_true c
theorem vei_ok (c : (Ex.vei).ok K = true) : PySem.W.findCls K (.type "ValueError") (.type "type") "__init__" = some (.val (.builtin "ValueError.__init__")) := by
  have c' : (match PySem.W.findCls K (.type "ValueError") (.type "type") "__init__" with | some (.val (.builtin n)) => decide (n = "ValueError.__init__") | _ => false) = true := c
  split at c'
  · rename_i n hn
    rw [hn, of_decide_eq_true c']
  · cases c'
theorem tup_ok {vs : List He.Dv} (c : (Ex.tup x vs).ok K = true) (H : Hp) : SqT K H (He.ga K x) (vs.map (He.Dv.v K)) := He.tupB_ok c H
end
/-- a const of the module, an int -/
theorem int_at {K : PySem.W.Frag} {h : Heap} {mg : Str → Option Value} {x : Str} {i : Int} (X : K.In h) (G : h.Ns mainGlobals mg) (c : (He.Fa.int x i).ok K = true) : ∃ u, mg x = some u ∧ RelV (.int i) u := by
  obtain ⟨t, e⟩ := He.int_ok X G c
  exact ⟨_, e, t, rfl⟩

section
variable {X : Cx} {x m : Str} {C f : Addr} {CX : CXT} {k j : Nat} {sp : Sp} {E : XK} {e : Expr} {es : List Expr} {t : TA} {p p1 p2 pos : Pos} {mc : Value}
theorem pe_cls {pl : Sem Bool} (c : ClsFn X.K C mc m f) (F : FnC X.prog X.w X.K X.mg X.base CX k f sp) (hr : Room j X.A) (hk : k ≤ j)
    (hg : Gl X x) (hm : X.mg x = some (.ref C)) (hx : Passes CX X E) (hP : PA X (e :: es) t)
    (hc : eval (.Call (.Attribute (.Name x p1) m p2) (e :: es) [] pos) X.env = (do
      let ov ← eval (.Name x p1) X.env
      standAt p2.atName
      let (g, first) ← holding [ov] (getMethod ov m pl)
      callWith pos g first (backTo pos (starEach (e :: es) X.env)) (backToKw pos (keywordEach [] X.env))) := by rfl)
    (hs1 : starEach (e :: es) X.env = (false, eval e X.env) :: starEach es X.env := by rfl)
    (hs2 : (backTo pos (starEach es X.env)).any (·.1) = false := by rfl) (hdb : (x == ("__debug__" : Str)) = false := by decide) :
    PE X (.Call (.Attribute (.Name x p1) m p2) (e :: es) [] pos) (tCall sp [] E t) := by
  obtain ⟨fd, ps, F, b, kp⟩ := F.ex
  exact pe_clsfn (pl := pl) c F (hr.mono hk) hg hm b .nil hx hP hc hs1 hs2 hdb
theorem pmk_bare (T : OexC X.K C) (i : PySem.W.findIn X.K (.ref C) "__init__" = some (some (.ref f))) (ti : PySem.W.typeIn X.K (.ref f) = some (.type "function"))
    (F : FnC X.prog X.w X.K X.mg X.base CX k f sp) (hr : Room j X.A) (hk : k + 1 ≤ j) (hx : Passes CX X (fun _ _ _ => False)) (hg : Gl X x) (hm : X.mg x = some (.ref C)) (hdb : (x == ("__debug__" : Str)) = false := by decide) :
    PMk X (.Call (.Name x p) [] [] pos) (fun _ H Q => (∀ a, H a = none → sp [.ref a] (upd H a (exo a C none)) (fun v H2 => v = .non ∧ H2 = upd H a (exo a C none)) (fun _ _ _ => False)) ∧ Q (.ref C) none H) := by
  obtain ⟨fd, ps, F, b, kp⟩ := F.ex
  exact pmk_bare0 T i ti F (hr.mono hk) b hx hg hm hdb
end

/-! ### the head's facts, the statics among them -/
def asR (g : Addr → Option Obj) : Nat → List Addr
  | 0 => [mainGlobals, cStatics]
  | n + 1 => He.growD g (asR g n)
abbrev AlR : Type := He.AlT × Bool
abbrev frR (n : Nat) (g : Addr → Option Obj) : PySem.W.Frag := He.frG g (asR g n)
def obsR (n : Nat) (fa : List He.Fa) (fn : List He.DefD) (ts : List He.Tab) (ex : List Ex) (g : Addr → Option Obj) : AlR := (He.obsT fa fn ts (frR n g), ex.all fun f => f.ok (frR n g))
structure SaysR (fa : List He.Fa) (fn : List He.DefD) (ts : List He.Tab) (ex : List Ex) (w : World) (K : PySem.W.Frag) : Prop where
  t : He.SaysT fa fn ts w K
  more : (ex.all fun f => f.ok K) = true
def hookR (n : Nat) (fa : List He.Fa) (fn : List He.DefD) (ts : List He.Tab) (ex : List Ex) : PySem.W.Hook where
  α := AlR
  obs := fun s => obsR n fa fn ts ex s.heap.get?
  val := fun w => (He.valT fn ts w, true)
  says := fun w h => ∃ K : PySem.W.Frag, K.In h ∧ SaysR fa fn ts ex w K
  of := fun _ _ e => ⟨_, He.frG_in, congrArg (fun z : AlR => z.1) e, congrArg (fun z : AlR => z.2) e⟩
  keeps := fun _ _ _ ⟨K, hK, c⟩ k => ⟨K, PySem.W.Frag.In.keeps hK k, c⟩
theorem obsR_eq {n : Nat} {fa : List He.Fa} {fn : List He.DefD} {ts : List He.Tab} {ex : List Ex} {g : Addr → Option Obj} {s : Shared} (h : ∀ a, g a = s.heap.get? a) : obsR n fa fn ts ex g = (hookR n fa fn ts ex).obs s := by
  have e : g = s.heap.get? := funext h
  rw [e]
  rfl
theorem ex_at {fa : List He.Fa} {fn : List He.DefD} {ts : List He.Tab} {ex : List Ex} {w : World} {K : PySem.W.Frag} (c : SaysR fa fn ts ex w K) (i : Nat) {f : Ex} (e : ex[i]? = some f) : f.ok K = true :=
  List.all_eq_true.mp c.more f (List.mem_of_getElem? e)

section
variable {X : Cx}
/-- a const of the module -/
theorem pe_gc {x : Str} {v : V} {pos : Pos} (hg : Gl X x) (h : ∃ u, X.mg x = some u ∧ RelV v u) (hdb : (x == ("__debug__" : Str)) = false := by decide) : PE X (.Name x pos) (tC v) := by
  obtain ⟨u, hm, r⟩ := h
  exact pe_glob hg hm r hdb
end

section
variable {X : Cx} {K : PySem.W.Frag}
/-- a field, the written part by name (within a comprehension's block) -/
theorem pe_fldK {e : Expr} {f : Str} {pos : Pos} {ta : TE} (hK : X.K = K) (he : PE X e ta) (hb : attributeBase e f X.env (eval e X.env) = eval e X.env) : PE X (.Attribute e f pos) (tFld K ta f) := by
  subst hK
  exact pe_fld he hb
end

/-! ### what is read without a change of the heap -/
section
variable {σ : L2.St} {H : Hp} {ta tb tc : TE} {i j l : Int} {a b : Bool} {K : PySem.W.Frag}
theorem val_orV (h1 : Val ta σ H (.bl a)) (h2 : Val tb σ H (.bl b)) : Val (tOrV ta tb) σ H (.bl (a || b)) := fun Q q => by
  refine h1 _ ⟨a, rfl, ?_⟩
  cases a
  · exact h2 Q q
  · exact q
theorem val_andV (h1 : Val ta σ H (.bl a)) (h2 : Val tb σ H (.bl b)) : Val (tAndV ta tb) σ H (.bl (a && b)) := fun Q q => by
  refine h1 _ ⟨a, rfl, ?_⟩
  cases a
  · exact q
  · exact h2 Q q
theorem val_i0 {g : Int → Int → V} (h1 : Val ta σ H (.int i)) (h2 : Val tb σ H (.int j)) : Val (tOp (rI0 g) ta tb) σ H (g i j) := fun Q q =>
  h1 _ (h2 _ ⟨i, j, rfl, rfl, q⟩)
theorem val_chain {p q : Int → Int → Bool} (h1 : Val ta σ H (.int i)) (h2 : Val tb σ H (.int j)) (h3 : Val tc σ H (.int l)) :
    Val (tChain (rI0 fun i j => .bl (p i j)) (rI0 fun i j => .bl (q i j)) ta tb tc) σ H (.bl (p i j && q j l)) := fun Q k => by
  refine h1 _ (h2 _ ⟨i, j, rfl, rfl, p i j, rfl, ?_⟩)
  cases e : p i j with
  | false =>
    rw [e] at k
    exact k
  | true =>
    rw [e] at k
    exact h3 _ ⟨j, l, rfl, rfl, k⟩
theorem ne_same {x y : V} {d e : PyData} {Q : Bool → Hp → Prop} (hx : Dp K H x d) (hy : Dp K H y e) (sx : SeqAt.shaped d = true) (sy : SeqAt.shaped e = true) (he : PyData.eqv d e = true) (k : Q false H) :
    rNeD K x y H (fun z H' => ∃ c, z = .bl c ∧ Q c H') := ⟨d, e, hx, hy, sx, sy, _, rfl, by
  rw [he]
  exact k⟩
theorem eq_same {x y : V} {d e : PyData} {Q : VK} (hx : Dp K H x d) (hy : Dp K H y e) (sx : SeqAt.shaped d = true) (sy : SeqAt.shaped e = true) (he : PyData.eqv d e = true) (k : Q (.bl true) H) :
    rEqD K x y H Q := ⟨d, e, hx, hy, sx, sy, by
  rw [he]
  exact k⟩
end

/-- the law's def: its function object is told -/
theorem fnk0 {P : Program} {w : World} {K : PySem.W.Frag} {mg : Str → Option Value} {base : Heap} {x qual : Str} {params : Arguments} {body : List Stmt} {scope : Scope} {kws : List (Str × V)} {f : Addr} {fd : FuncData} {N ps : List Str} {k : Nat} {sp : Sp}
    (F : FunD K x qual params body scope [] kws f fd) (S : FnScope N ps scope) (len : ∀ vs H Q E, sp vs H Q E → vs.length = ps.length)
    (hb : ∀ (cdv : Value) (A : Around) (outer : List Env) (s : Shared) (H : Hp) (vs : List V) (Q : VK) (E : XK), Room k (A.deeper (envOfC qual scope s.heap.objs.size f cdv)) → sp vs H Q E →
      ∃ t, PSs (cxOf CX0 P w K mg base N qual scope f cdv A outer s H E).nox body t ∧ t { nx := fun _ H' => Q .non H', rt := Q } (start N vs) H) : FnOk P w K mg base CX0 (k + 1) f fd ps sp :=
  F.ok S len fun cdv A outer s H vs Q E hr h => by
    obtain ⟨t, h1, h2⟩ := hb cdv A outer s H vs Q E hr h
    exact ⟨t, h1.nox, h2⟩
end Rb
/-! Objects by their fields; a memory as it lies in the heap. -/
namespace Rb
open PySem PySem.Spec PyProof.Rows L2
/-! ### fields by names -/
def fix (f : Str) : List Str → Option Nat
  | [] => none
  | n :: r => if f = n then some 0 else (fix f r).map (· + 1)
theorem zl {f : Str} {v : V} : ∀ {ns : List Str} {vs : List V} {i : Nat}, fix f ns = some i → vs[i]? = some v → (List.zip ns vs).lookup f = some v
  | [], _, _, h, _ => by cases h
  | n :: r, [], i, h, hv => by simp at hv
  | n :: r, x :: vs, i, h, hv => by
    unfold fix at h
    by_cases e : f = n
    · rw [if_pos e] at h
      cases h
      subst e
      show List.lookup f ((f, x) :: List.zip r vs) = some v
      simp at hv
      rw [List.lookup_cons_self, hv]
    · rw [if_neg e] at h
      cases q : fix f r with
      | none =>
        rw [q] at h
        cases h
      | some j =>
        rw [q] at h
        cases h
        show List.lookup f ((n, x) :: List.zip r vs) = some v
        have e' : (f == n) = false := by simpa using e
        rw [List.lookup_cons, e']
        exact zl q (by simpa using hv)
theorem zn {f : Str} : ∀ {ns : List Str} {vs : List V}, fix f ns = none → (List.zip ns vs).lookup f = none
  | [], _, _ => rfl
  | n :: r, [], _ => rfl
  | n :: r, x :: vs, h => by
    unfold fix at h
    by_cases e : f = n
    · rw [if_pos e] at h
      cases h
    · rw [if_neg e] at h
      cases q : fix f r with
      | some j =>
        rw [q] at h
        cases h
      | none =>
        show List.lookup f ((n, x) :: List.zip r vs) = none
        have e' : (f == n) = false := by simpa using e
        rw [List.lookup_cons, e']
        exact zn q
theorem zp {f : Str} {v : V} : ∀ {ns : List Str} {vs : List V} {i : Nat}, fix f ns = some i → ns.length = vs.length → putF f v (List.zip ns vs) = List.zip ns (vs.set i v)
  | [], _, _, h, _ => by cases h
  | n :: r, [], i, h, hl => by cases hl
  | n :: r, x :: vs, i, h, hl => by
    unfold fix at h
    by_cases e : f = n
    · rw [if_pos e] at h
      cases h
      subst e
      show (if f = f then (f, v) :: List.zip r vs else _) = (f, v) :: List.zip r vs
      rw [if_pos rfl]
    · rw [if_neg e] at h
      cases q : fix f r with
      | none =>
        rw [q] at h
        cases h
      | some j =>
        rw [q] at h
        cases h
        show (if n = f then (n, v) :: List.zip r vs else (n, x) :: putF f v (List.zip r vs)) = (n, x) :: List.zip r (vs.set j v)
        rw [if_neg (fun z => e z.symm), zp q (Nat.succ.inj hl)]
theorem zx {f : Str} {v : V} : ∀ {ns : List Str} {vs : List V}, fix f ns = none → ns.length = vs.length → putF f v (List.zip ns vs) = List.zip (ns ++ [f]) (vs ++ [v])
  | [], [], _, _ => rfl
  | [], _ :: _, _, hl => by cases hl
  | n :: r, [], _, hl => by cases hl
  | n :: r, x :: vs, h, hl => by
    unfold fix at h
    by_cases e : f = n
    · rw [if_pos e] at h
      cases h
    · rw [if_neg e] at h
      cases q : fix f r with
      | some j =>
        rw [q] at h
        cases h
      | none =>
        show (if n = f then (n, v) :: List.zip r vs else (n, x) :: putF f v (List.zip r vs)) = (n, x) :: List.zip (r ++ [f]) (vs ++ [v])
        rw [if_neg (fun z => e z.symm), zx q (Nat.succ.inj hl)]
/-! ### the objects of a memory -/
def gNames : List Str := ["_entries", "_queue", "_tickets"]
def gFld (e q : Addr) (n : Int) : List (Str × V) := List.zip gNames [.ref e, .ref q, .int n]
def mNames : List Str := ["count", "guards", "_cells", "_blocks", "_journals", "_log"]
def mFld (n : Int) (aG aC aB aJ aL : Addr) : List (Str × V) := List.zip mNames [.int n, .ref aG, .ref aC, .ref aB, .ref aJ, .ref aL]
/-- a guard: what its entries, its queue and its tickets are -/
structure GS where
  ents : List (Key × V)
  que : List V
  tix : Int
/-- where a guard lies: the object, its dict, its entries, its queue -/
structure GL where
  g : Addr
  d : Addr
  e : Addr
  q : Addr
def GL.all (L : GL) : List Addr := [L.d, L.g, L.e, L.q]
structure GuardAt (C : Addr) (L : GL) (H : Hp) (G : GS) : Prop where
  og : H L.g = some (.ins C L.d (gFld L.e L.q G.tix))
  od : H L.d = some (.own L.g)
  oe : H L.e = some (.dK G.ents)
  oq : H L.q = some (.lst G.que)
theorem GuardAt.keep {C : Addr} {L : GL} {H H' : Hp} {G : GS} (h : GuardAt C L H G) (k : ∀ b ∈ L.all, H' b = H b) : GuardAt C L H' G :=
  ⟨(k _ (by simp [GL.all])).trans h.og, (k _ (by simp [GL.all])).trans h.od, (k _ (by simp [GL.all])).trans h.oe, (k _ (by simp [GL.all])).trans h.oq⟩
structure MS where
  count : Int
  cells : List V
  bl : Nat → List V
  jo : List V
  log : List V
  gs : Nat → GS
structure ML where
  m : Addr
  d : Addr
  aG : Addr
  aC : Addr
  aB : Addr
  bl : Nat → Addr
  aJ : Addr
  aL : Addr
  gs : Nat → GL
def ML.all (L : ML) : List Addr := [L.m, L.d, L.aG] ++ (L.gs 0).all ++ (L.gs 1).all ++ [L.aC, L.aB, L.bl 0, L.bl 1, L.aJ, L.aL]
structure MemAt (Cm Cg : Addr) (L : ML) (H : Hp) (M : MS) : Prop where
  om : H L.m = some (.ins Cm L.d (mFld M.count L.aG L.aC L.aB L.aJ L.aL))
  od : H L.d = some (.own L.m)
  og : H L.aG = some (.lst [.ref (L.gs 0).g, .ref (L.gs 1).g])
  oc : H L.aC = some (.lst M.cells)
  ob : H L.aB = some (.lst [.ref (L.bl 0), .ref (L.bl 1)])
  obl : ∀ d, d < 2 → H (L.bl d) = some (.lst (M.bl d))
  oj : H L.aJ = some (.lst M.jo)
  ol : H L.aL = some (.lst M.log)
  gu : ∀ d, d < 2 → GuardAt Cg (L.gs d) H (M.gs d)
  nd : L.all.Nodup
theorem lt2 {d : Nat} (h : d < 2) : d = 0 ∨ d = 1 := by omega
theorem ML.in_g {L : ML} {d : Nat} (hd : d < 2) {b : Addr} (h : b ∈ (L.gs d).all) : b ∈ L.all := by
  unfold ML.all
  rcases lt2 hd with rfl | rfl
  · exact List.mem_append_left _ (List.mem_append_left _ (List.mem_append_right _ h))
  · exact List.mem_append_left _ (List.mem_append_right _ h)
theorem ML.in_b {L : ML} {d : Nat} (hd : d < 2) : L.bl d ∈ L.all := by
  unfold ML.all
  rcases lt2 hd with rfl | rfl
  · simp
  · simp
/-- what lies outside of the memory does not matter -/
theorem MemAt.keep {Cm Cg : Addr} {L : ML} {H H' : Hp} {M : MS} (h : MemAt Cm Cg L H M) (k : ∀ b ∈ L.all, H' b = H b) : MemAt Cm Cg L H' M where
  om := (k _ (by simp [ML.all])).trans h.om
  od := (k _ (by simp [ML.all])).trans h.od
  og := (k _ (by simp [ML.all])).trans h.og
  oc := (k _ (by simp [ML.all])).trans h.oc
  ob := (k _ (by simp [ML.all])).trans h.ob
  obl := fun d hd => (k _ (ML.in_b hd)).trans (h.obl d hd)
  oj := (k _ (by simp [ML.all])).trans h.oj
  ol := (k _ (by simp [ML.all])).trans h.ol
  gu := fun d hd => (h.gu d hd).keep fun b hb => k b (ML.in_g hd hb)
  nd := h.nd
/-- what is tracked stays: heaps that only grow keep a memory -/
theorem MemAt.same {Cm Cg : Addr} {L : ML} {H H' : Hp} {M : MS} (h : MemAt Cm Cg L H M) (s : Same H H') : MemAt Cm Cg L H' M where
  om := s _ _ h.om
  od := s _ _ h.od
  og := s _ _ h.og
  oc := s _ _ h.oc
  ob := s _ _ h.ob
  obl := fun d hd => s _ _ (h.obl d hd)
  oj := s _ _ h.oj
  ol := s _ _ h.ol
  gu := fun d hd => ⟨s _ _ (h.gu d hd).og, s _ _ (h.gu d hd).od, s _ _ (h.gu d hd).oe, s _ _ (h.gu d hd).oq⟩
  nd := h.nd
theorem Same.new {H H' : Hp} {p : Addr} {o : HO} (s : Same H H') (h : H p = none) : Same H (upd H' p o) := fun b u e => by
  rw [upd_ne (ne_of_none e h)]
  exact s b u e
theorem free_upd {H : Hp} {p a : Addr} {o : HO} (h : upd H p o a = none) : a ≠ p ∧ H a = none := by
  by_cases e : a = p
  · rw [e, upd_same] at h
    cases h
  · rw [upd_ne e] at h
    exact ⟨e, h⟩

/-! ### addresses apart, all of them tracked -/
structure Trk (H : Hp) (S : List Addr) : Prop where
  nd : S.Nodup
  tr : ∀ a ∈ S, H a ≠ none
theorem Trk.not {H : Hp} {S : List Addr} {p : Addr} (t : Trk H S) (h : H p = none) : p ∉ S := fun m => t.tr p m h
theorem Trk.dom {H H' : Hp} {S : List Addr} (t : Trk H S) (k : ∀ a ∈ S, H a ≠ none → H' a ≠ none) : Trk H' S := ⟨t.nd, fun a m => k a m (t.tr a m)⟩
theorem dom_upd {H : Hp} {p a : Addr} {o : HO} (h : H a ≠ none) : upd H p o a ≠ none := by
  by_cases e : a = p
  · rw [e, upd_same]
    intro z
    cases z
  · rw [upd_ne e]
    exact h
theorem Trk.upd {H : Hp} {S : List Addr} {p : Addr} {o : HO} (t : Trk H S) : Trk (upd H p o) S := t.dom fun _ _ h => dom_upd h
theorem Trk.same {H H' : Hp} {S : List Addr} (t : Trk H S) (s : Same H H') : Trk H' S := t.dom fun a _ h => by
  cases q : H a with
  | none => exact absurd q h
  | some o =>
    rw [s a o q]
    intro z
    cases z
theorem Trk.add {H H' : Hp} {S : List Addr} {p : Addr} (t : Trk H S) (h : H p = none) (h' : H' p ≠ none) (k : ∀ a ∈ S, H a ≠ none → H' a ≠ none) : Trk H' (S ++ [p]) where
  nd := by
    rw [List.nodup_append]
    refine ⟨t.nd, by simp, fun a ha b hb e => ?_⟩
    rw [List.mem_singleton] at hb
    rw [e, hb] at ha
    exact t.not h ha
  tr := fun a ha => by
    rcases List.mem_append.mp ha with q | q
    · exact k a q (t.tr a q)
    · rw [List.mem_singleton] at q
      rw [q]
      exact h'
theorem Trk.new {H : Hp} {S : List Addr} {p : Addr} {o : HO} (t : Trk H S) (h : H p = none) : Trk (L2.upd H p o) (S ++ [p]) :=
  t.add h (by rw [upd_same]; intro z; cases z) fun a _ q => dom_upd q

theorem Trk.adds {H H' : Hp} {S ps : List Addr} (t : Trk H S) (hn : ps.Nodup) (h : ∀ p ∈ ps, H p = none) (h' : ∀ p ∈ ps, H' p ≠ none) (k : ∀ a ∈ S, H a ≠ none → H' a ≠ none) : Trk H' (S ++ ps) where
  nd := by
    rw [List.nodup_append]
    exact ⟨t.nd, hn, fun a ha b hb e => t.not (h b hb) (e ▸ ha)⟩
  tr := fun a ha => by
    rcases List.mem_append.mp ha with q | q
    · exact k a q (t.tr a q)
    · exact h' a q
theorem some_ne {o : HO} {x : Option HO} (h : x = some o) : x ≠ none := by
  rw [h]
  intro z
  cases z
theorem Trk.ne {H : Hp} {S : List Addr} {a b : Addr} {R : List Addr} (t : Trk H S) (e : S = R ++ [b]) (h : a ∈ R) : a ≠ b := by
  have n := t.nd
  rw [e, List.nodup_append] at n
  exact n.2.2 a h b (by simp)
/-- none of the addresses was tracked at first -/
theorem back {H H' : Hp} {a : Addr} (s : Same H H') (h : H' a = none) : H a = none := s.free h
end Rb
namespace Rb
open PySem PySem.Spec PyProof.Rows L2
def top (i : Nat) : Stmt := PySem.Challenge.pw_ringbound_k01_cells.main.body.getD i (.Pass ⟨0, 0, 0, 0⟩)
abbrev s_RingError___init__ : Stmt := inClass (top 1) 0
def d_RingError___init__ : He.DefD := ⟨("RingError", some "__init__"), "__init__", "RingError.__init__", defArgs s_RingError___init__, defBody s_RingError___init__, defScope s_RingError___init__, [], []⟩
theorem sc_RingError___init__ : FnScope ["self"] ["self"] (defScope s_RingError___init__) := ⟨rfl, rfl, rfl, by decide +kernel, rfl, by decide +kernel, by decide +kernel⟩
abbrev s_NotValid___init__ : Stmt := inClass (top 2) 0
def d_NotValid___init__ : He.DefD := ⟨("NotValid", some "__init__"), "__init__", "NotValid.__init__", defArgs s_NotValid___init__, defBody s_NotValid___init__, defScope s_NotValid___init__, [], []⟩
theorem sc_NotValid___init__ : FnScope ["self"] ["self"] (defScope s_NotValid___init__) := ⟨rfl, rfl, rfl, by decide +kernel, rfl, by decide +kernel, by decide +kernel⟩
abbrev s_is_integer : Stmt := top 4
def d_is_integer : He.DefD := ⟨("is_integer", none), "is_integer", "is_integer", defArgs s_is_integer, defBody s_is_integer, defScope s_is_integer, [], []⟩
theorem sc_is_integer : FnScope ["value"] ["value"] (defScope s_is_integer) := ⟨rfl, rfl, rfl, by decide +kernel, rfl, by decide +kernel, by decide +kernel⟩
abbrev s_is_number : Stmt := top 5
def d_is_number : He.DefD := ⟨("is_number", none), "is_number", "is_number", defArgs s_is_number, defBody s_is_number, defScope s_is_number, [], []⟩
theorem sc_is_number : FnScope ["value", "limit"] ["value", "limit"] (defScope s_is_number) := ⟨rfl, rfl, rfl, by decide +kernel, rfl, by decide +kernel, by decide +kernel⟩
abbrev s_Guard___init__ : Stmt := inClass (top 14) 0
def d_Guard___init__ : He.DefD := ⟨("Guard", some "__init__"), "__init__", "Guard.__init__", defArgs s_Guard___init__, defBody s_Guard___init__, defScope s_Guard___init__, [], []⟩
theorem sc_Guard___init__ : FnScope ["self"] ["self"] (defScope s_Guard___init__) := ⟨rfl, rfl, rfl, by decide +kernel, rfl, by decide +kernel, by decide +kernel⟩
abbrev s_Guard_entries : Stmt := inClass (top 14) 4
def d_Guard_entries : He.DefD := ⟨("Guard", some "entries"), "entries", "Guard.entries", defArgs s_Guard_entries, defBody s_Guard_entries, defScope s_Guard_entries, [], []⟩
theorem sc_Guard_entries : FnScope ["self", "page"] ["self"] (defScope s_Guard_entries) := ⟨rfl, rfl, rfl, by decide +kernel, rfl, by decide +kernel, by decide +kernel⟩
abbrev s_Guard_queue : Stmt := inClass (top 14) 5
def d_Guard_queue : He.DefD := ⟨("Guard", some "queue"), "queue", "Guard.queue", defArgs s_Guard_queue, defBody s_Guard_queue, defScope s_Guard_queue, [], []⟩
theorem sc_Guard_queue : FnScope ["self"] ["self"] (defScope s_Guard_queue) := ⟨rfl, rfl, rfl, by decide +kernel, rfl, by decide +kernel, by decide +kernel⟩
abbrev s_frame_cell : Stmt := top 20
def d_frame_cell : He.DefD := ⟨("frame_cell", none), "frame_cell", "frame_cell", defArgs s_frame_cell, defBody s_frame_cell, defScope s_frame_cell, [], []⟩
theorem sc_frame_cell : FnScope ["device", "frame", "index"] ["device", "frame", "index"] (defScope s_frame_cell) := ⟨rfl, rfl, rfl, by decide +kernel, rfl, by decide +kernel, by decide +kernel⟩
abbrev s_doorbell : Stmt := top 21
def d_doorbell : He.DefD := ⟨("doorbell", none), "doorbell", "doorbell", defArgs s_doorbell, defBody s_doorbell, defScope s_doorbell, [], []⟩
theorem sc_doorbell : FnScope ["device"] ["device"] (defScope s_doorbell) := ⟨rfl, rfl, rfl, by decide +kernel, rfl, by decide +kernel, by decide +kernel⟩
abbrev s_reset : Stmt := top 22
def d_reset : He.DefD := ⟨("reset", none), "reset", "reset", defArgs s_reset, defBody s_reset, defScope s_reset, [], []⟩
theorem sc_reset : FnScope ["device"] ["device"] (defScope s_reset) := ⟨rfl, rfl, rfl, by decide +kernel, rfl, by decide +kernel, by decide +kernel⟩
abbrev s_ready : Stmt := top 23
def d_ready : He.DefD := ⟨("ready", none), "ready", "ready", defArgs s_ready, defBody s_ready, defScope s_ready, [], []⟩
theorem sc_ready : FnScope ["device"] ["device"] (defScope s_ready) := ⟨rfl, rfl, rfl, by decide +kernel, rfl, by decide +kernel, by decide +kernel⟩
abbrev s_interrupt : Stmt := top 24
def d_interrupt : He.DefD := ⟨("interrupt", none), "interrupt", "interrupt", defArgs s_interrupt, defBody s_interrupt, defScope s_interrupt, [], []⟩
theorem sc_interrupt : FnScope ["device"] ["device"] (defScope s_interrupt) := ⟨rfl, rfl, rfl, by decide +kernel, rfl, by decide +kernel, by decide +kernel⟩
abbrev s_table_word : Stmt := top 25
def d_table_word : He.DefD := ⟨("table_word", none), "table_word", "table_word", defArgs s_table_word, defBody s_table_word, defScope s_table_word, [], []⟩
theorem sc_table_word : FnScope ["device", "page"] ["device", "page"] (defScope s_table_word) := ⟨rfl, rfl, rfl, by decide +kernel, rfl, by decide +kernel, by decide +kernel⟩
abbrev s_acknowledge : Stmt := top 26
def d_acknowledge : He.DefD := ⟨("acknowledge", none), "acknowledge", "acknowledge", defArgs s_acknowledge, defBody s_acknowledge, defScope s_acknowledge, [], []⟩
theorem sc_acknowledge : FnScope ["device"] ["device"] (defScope s_acknowledge) := ⟨rfl, rfl, rfl, by decide +kernel, rfl, by decide +kernel, by decide +kernel⟩
abbrev s_first_cells : Stmt := top 27
def d_first_cells : He.DefD := ⟨("first_cells", none), "first_cells", "first_cells", defArgs s_first_cells, defBody s_first_cells, defScope s_first_cells, [], []⟩
theorem sc_first_cells : FnScope ["cells", "device", "frame", "index", "page"] [] (defScope s_first_cells) := ⟨rfl, rfl, rfl, by decide +kernel, rfl, by decide +kernel, by decide +kernel⟩
abbrev s_Memory___init__ : Stmt := inClass (top 37) 0
def d_Memory___init__ : He.DefD := ⟨("Memory", some "__init__"), "__init__", "Memory.__init__", defArgs s_Memory___init__, defBody s_Memory___init__, defScope s_Memory___init__, [], []⟩
theorem sc_Memory___init__ : FnScope ["self", "device"] ["self"] (defScope s_Memory___init__) := ⟨rfl, rfl, rfl, by decide +kernel, rfl, by decide +kernel, by decide +kernel⟩
abbrev s_Memory_peek : Stmt := inClass (top 37) 2
def d_Memory_peek : He.DefD := ⟨("Memory", some "peek"), "peek", "Memory.peek", defArgs s_Memory_peek, defBody s_Memory_peek, defScope s_Memory_peek, [], []⟩
theorem sc_Memory_peek : FnScope ["self", "cell"] ["self", "cell"] (defScope s_Memory_peek) := ⟨rfl, rfl, rfl, by decide +kernel, rfl, by decide +kernel, by decide +kernel⟩
abbrev s_Memory_block : Stmt := inClass (top 37) 3
def d_Memory_block : He.DefD := ⟨("Memory", some "block"), "block", "Memory.block", defArgs s_Memory_block, defBody s_Memory_block, defScope s_Memory_block, [], []⟩
theorem sc_Memory_block : FnScope ["self", "device", "block"] ["self", "device", "block"] (defScope s_Memory_block) := ⟨rfl, rfl, rfl, by decide +kernel, rfl, by decide +kernel, by decide +kernel⟩
abbrev s_Memory_journal : Stmt := inClass (top 37) 4
def d_Memory_journal : He.DefD := ⟨("Memory", some "journal"), "journal", "Memory.journal", defArgs s_Memory_journal, defBody s_Memory_journal, defScope s_Memory_journal, [], []⟩
theorem sc_Memory_journal : FnScope ["self", "device"] ["self", "device"] (defScope s_Memory_journal) := ⟨rfl, rfl, rfl, by decide +kernel, rfl, by decide +kernel, by decide +kernel⟩
abbrev s_Memory_log : Stmt := inClass (top 37) 5
def d_Memory_log : He.DefD := ⟨("Memory", some "log"), "log", "Memory.log", defArgs s_Memory_log, defBody s_Memory_log, defScope s_Memory_log, [], []⟩
theorem sc_Memory_log : FnScope ["self"] ["self"] (defScope s_Memory_log) := ⟨rfl, rfl, rfl, by decide +kernel, rfl, by decide +kernel, by decide +kernel⟩
abbrev s__law_tape : Stmt := top 39
def d__law_tape : He.DefD := ⟨("_law_tape", none), "_law_tape", "_law_tape", defArgs s__law_tape, defBody s__law_tape, defScope s__law_tape, [], []⟩
theorem sc__law_tape : FnScope ["script", "tape", "k", "value", "step"] ["script"] (defScope s__law_tape) := ⟨rfl, rfl, rfl, by decide +kernel, rfl, by decide +kernel, by decide +kernel⟩
abbrev s__law_at : Stmt := top 40
def d__law_at : He.DefD := ⟨("_law_at", none), "_law_at", "_law_at", defArgs s__law_at, defBody s__law_at, defScope s__law_at, [], []⟩
theorem sc__law_at : FnScope ["tape", "k"] ["tape", "k"] (defScope s__law_at) := ⟨rfl, rfl, rfl, by decide +kernel, rfl, by decide +kernel, by decide +kernel⟩
abbrev s__law_listed : Stmt := top 41
def d__law_listed : He.DefD := ⟨("_law_listed", none), "_law_listed", "_law_listed", defArgs s__law_listed, defBody s__law_listed, defScope s__law_listed, [], []⟩
theorem sc__law_listed : FnScope ["cells", "device", "frame", "page", "index"] [] (defScope s__law_listed) := ⟨rfl, rfl, rfl, by decide +kernel, rfl, by decide +kernel, by decide +kernel⟩
abbrev s__law_told : Stmt := top 42
def d__law_told : He.DefD := ⟨("_law_told", none), "_law_told", "_law_told", defArgs s__law_told, defBody s__law_told, defScope s__law_told, [], []⟩
theorem sc__law_told : FnScope ["memory", "act", "first", "second", "e"] ["memory", "act", "first", "second"] (defScope s__law_told) := ⟨rfl, rfl, rfl, by decide +kernel, rfl, by decide +kernel, by decide +kernel⟩
abbrev s_law : Stmt := top 43
def d_law : He.DefD := ⟨("law", none), "law", "law", defArgs s_law, defBody s_law, defScope s_law, [], []⟩
theorem sc_law : FnScope ["script", "k", "tape", "memory", "cell", "empty", "value", "device", "block", "wrong", "other"] ["script"] (defScope s_law) := ⟨rfl, rfl, rfl, by decide +kernel, rfl, by decide +kernel, by decide +kernel⟩
structure Top (K : PySem.W.Frag) (mg : Str → Option Value) : Prop where
  b_ValueError : mg "ValueError" = none
  vei : PySem.W.findCls K (.type "ValueError") (.type "type") "__init__" = some (.val (.builtin "ValueError.__init__"))
  cf_RingError___init__ : ClsFn K (He.ga K "RingError") (.type "type") "__init__" (He.ma K (He.ga K "RingError") "__init__")
  g_RingError : mg "RingError" = some (.ref (He.ga K "RingError"))
  b_type : mg "type" = none
  b_int : mg "int" = none
  g_is_integer : mg "is_integer" = some (.ref (He.ga K "is_integer"))
  b_list : mg "list" = none
  c_FRAMES : ∃ u, mg "FRAMES" = some u ∧ RelV (.int 6) u
  c_CELLS : ∃ u, mg "CELLS" = some u ∧ RelV (.int 4) u
  g_frame_cell : mg "frame_cell" = some (.ref (He.ga K "frame_cell"))
  c_DEVICES : ∃ u, mg "DEVICES" = some u ∧ RelV (.int 2) u
  c_REGISTERS : ∃ u, mg "REGISTERS" = some u ∧ RelV (.int 4) u
  g_doorbell : mg "doorbell" = some (.ref (He.ga K "doorbell"))
  c_PAGES : ∃ u, mg "PAGES" = some u ∧ RelV (.int 6) u
  g_table_word : mg "table_word" = some (.ref (He.ga K "table_word"))
  g_acknowledge : mg "acknowledge" = some (.ref (He.ga K "acknowledge"))
  b_range : mg "range" = none
  c_RING_FRAMES : ∃ u, mg "RING_FRAMES" = some u ∧ RelV (.int 2) u
  g_Guard : mg "Guard" = some (.ref (He.ga K "Guard"))
  mk_Guard : Mk K (He.ga K "Guard") (He.ma K (He.ga K "Guard") "__init__")
  g_first_cells : mg "first_cells" = some (.ref (He.ga K "first_cells"))
  c_BLOCKS : ∃ u, mg "BLOCKS" = some u ∧ RelV (.int 8) u
  g_is_number : mg "is_number" = some (.ref (He.ga K "is_number"))
  b_len : mg "len" = none
  ex_NotValid : OexC K (He.ga K "NotValid")
  ini_NotValid : PySem.W.findIn K (.ref (He.ga K "NotValid")) "__init__" = some (some (.ref (He.ma K (He.ga K "NotValid") "__init__")))
  ity_NotValid : PySem.W.typeIn K (.ref (He.ma K (He.ga K "NotValid") "__init__")) = some (.type "function")
  g_NotValid : mg "NotValid" = some (.ref (He.ga K "NotValid"))
  b_abs : mg "abs" = none
  g_reset : mg "reset" = some (.ref (He.ga K "reset"))
  g_ready : mg "ready" = some (.ref (He.ga K "ready"))
  g_interrupt : mg "interrupt" = some (.ref (He.ga K "interrupt"))
  g__law_listed : mg "_law_listed" = some (.ref (He.ga K "_law_listed"))
  g__law_tape : mg "_law_tape" = some (.ref (He.ga K "_law_tape"))
  g_Memory : mg "Memory" = some (.ref (He.ga K "Memory"))
  mk_Memory : Mk K (He.ga K "Memory") (He.ma K (He.ga K "Memory") "__init__")
  cl_Memory : Cls K (He.ga K "Memory")
  me_Memory_peek : Meth K (He.ga K "Memory") "peek" (He.ma K (He.ga K "Memory") "peek")
  b_isinstance : mg "isinstance" = none
  b_bool : mg "bool" = none
  me_Memory_journal : Meth K (He.ga K "Memory") "journal" (He.ma K (He.ga K "Memory") "journal")
  cl_Guard : Cls K (He.ga K "Guard")
  me_Guard_entries : Meth K (He.ga K "Guard") "entries" (He.ma K (He.ga K "Guard") "entries")
  me_Guard_queue : Meth K (He.ga K "Guard") "queue" (He.ma K (He.ga K "Guard") "queue")
  me_Memory_block : Meth K (He.ga K "Memory") "block" (He.ma K (He.ga K "Memory") "block")
  b_min : mg "min" = none
  g__law_at : mg "_law_at" = some (.ref (He.ga K "_law_at"))
  g__law_told : mg "_law_told" = some (.ref (He.ga K "_law_told"))
  me_Memory_log : Meth K (He.ga K "Memory") "log" (He.ma K (He.ga K "Memory") "log")
  na_Guard__entries : NoAttr K (He.ga K "Guard") "_entries"
  na_Guard__queue : NoAttr K (He.ga K "Guard") "_queue"
  na_Guard__tickets : NoAttr K (He.ga K "Guard") "_tickets"
  na_Memory_count : NoAttr K (He.ga K "Memory") "count"
  na_Memory_guards : NoAttr K (He.ga K "Memory") "guards"
  na_Memory__cells : NoAttr K (He.ga K "Memory") "_cells"
  na_Memory__blocks : NoAttr K (He.ga K "Memory") "_blocks"
  na_Memory__journals : NoAttr K (He.ga K "Memory") "_journals"
  na_Memory__log : NoAttr K (He.ga K "Memory") "_log"
  b_sorted : mg "sorted" = none
  xc_NotValid : ExcC K (He.ga K "NotValid")
  exm_NotValid_RingError_T : PySem.W.exmOne K (.ref (He.ga K "NotValid")) (.ref (He.ga K "RingError")) = some true
  kit_NotValid_NotValid_T : PySem.W.kitOne K (.ref (He.ga K "NotValid")) (.ref (He.ga K "NotValid")) = some true
  g_law : mg "law" = some (.ref (He.ga K "law"))
  d_RingError___init__ : ∃ fd, FunD K "__init__" "RingError.__init__" (defArgs s_RingError___init__) (defBody s_RingError___init__) (defScope s_RingError___init__) [] [] (He.ma K (He.ga K "RingError") "__init__") fd
  d_NotValid___init__ : ∃ fd, FunD K "__init__" "NotValid.__init__" (defArgs s_NotValid___init__) (defBody s_NotValid___init__) (defScope s_NotValid___init__) [] [] (He.ma K (He.ga K "NotValid") "__init__") fd
  d_is_integer : ∃ fd, FunD K "is_integer" "is_integer" (defArgs s_is_integer) (defBody s_is_integer) (defScope s_is_integer) [] [] (He.ga K "is_integer") fd
  d_is_number : ∃ fd, FunD K "is_number" "is_number" (defArgs s_is_number) (defBody s_is_number) (defScope s_is_number) [] [] (He.ga K "is_number") fd
  d_Guard___init__ : ∃ fd, FunD K "__init__" "Guard.__init__" (defArgs s_Guard___init__) (defBody s_Guard___init__) (defScope s_Guard___init__) [] [] (He.ma K (He.ga K "Guard") "__init__") fd
  d_Guard_entries : ∃ fd, FunD K "entries" "Guard.entries" (defArgs s_Guard_entries) (defBody s_Guard_entries) (defScope s_Guard_entries) [] [] (He.ma K (He.ga K "Guard") "entries") fd
  d_Guard_queue : ∃ fd, FunD K "queue" "Guard.queue" (defArgs s_Guard_queue) (defBody s_Guard_queue) (defScope s_Guard_queue) [] [] (He.ma K (He.ga K "Guard") "queue") fd
  d_frame_cell : ∃ fd, FunD K "frame_cell" "frame_cell" (defArgs s_frame_cell) (defBody s_frame_cell) (defScope s_frame_cell) [] [] (He.ga K "frame_cell") fd
  d_doorbell : ∃ fd, FunD K "doorbell" "doorbell" (defArgs s_doorbell) (defBody s_doorbell) (defScope s_doorbell) [] [] (He.ga K "doorbell") fd
  d_reset : ∃ fd, FunD K "reset" "reset" (defArgs s_reset) (defBody s_reset) (defScope s_reset) [] [] (He.ga K "reset") fd
  d_ready : ∃ fd, FunD K "ready" "ready" (defArgs s_ready) (defBody s_ready) (defScope s_ready) [] [] (He.ga K "ready") fd
  d_interrupt : ∃ fd, FunD K "interrupt" "interrupt" (defArgs s_interrupt) (defBody s_interrupt) (defScope s_interrupt) [] [] (He.ga K "interrupt") fd
  d_table_word : ∃ fd, FunD K "table_word" "table_word" (defArgs s_table_word) (defBody s_table_word) (defScope s_table_word) [] [] (He.ga K "table_word") fd
  d_acknowledge : ∃ fd, FunD K "acknowledge" "acknowledge" (defArgs s_acknowledge) (defBody s_acknowledge) (defScope s_acknowledge) [] [] (He.ga K "acknowledge") fd
  d_first_cells : ∃ fd, FunD K "first_cells" "first_cells" (defArgs s_first_cells) (defBody s_first_cells) (defScope s_first_cells) [] [] (He.ga K "first_cells") fd
  d_Memory___init__ : ∃ fd, FunD K "__init__" "Memory.__init__" (defArgs s_Memory___init__) (defBody s_Memory___init__) (defScope s_Memory___init__) [] [] (He.ma K (He.ga K "Memory") "__init__") fd
  d_Memory_peek : ∃ fd, FunD K "peek" "Memory.peek" (defArgs s_Memory_peek) (defBody s_Memory_peek) (defScope s_Memory_peek) [] [] (He.ma K (He.ga K "Memory") "peek") fd
  d_Memory_block : ∃ fd, FunD K "block" "Memory.block" (defArgs s_Memory_block) (defBody s_Memory_block) (defScope s_Memory_block) [] [] (He.ma K (He.ga K "Memory") "block") fd
  d_Memory_journal : ∃ fd, FunD K "journal" "Memory.journal" (defArgs s_Memory_journal) (defBody s_Memory_journal) (defScope s_Memory_journal) [] [] (He.ma K (He.ga K "Memory") "journal") fd
  d_Memory_log : ∃ fd, FunD K "log" "Memory.log" (defArgs s_Memory_log) (defBody s_Memory_log) (defScope s_Memory_log) [] [] (He.ma K (He.ga K "Memory") "log") fd
  d__law_tape : ∃ fd, FunD K "_law_tape" "_law_tape" (defArgs s__law_tape) (defBody s__law_tape) (defScope s__law_tape) [] [] (He.ga K "_law_tape") fd
  d__law_at : ∃ fd, FunD K "_law_at" "_law_at" (defArgs s__law_at) (defBody s__law_at) (defScope s__law_at) [] [] (He.ga K "_law_at") fd
  d__law_listed : ∃ fd, FunD K "_law_listed" "_law_listed" (defArgs s__law_listed) (defBody s__law_listed) (defScope s__law_listed) [] [] (He.ga K "_law_listed") fd
  d__law_told : ∃ fd, FunD K "_law_told" "_law_told" (defArgs s__law_told) (defBody s__law_told) (defScope s__law_told) [] [] (He.ga K "_law_told") fd
  d_law : ∃ fd, FunD K "law" "law" (defArgs s_law) (defBody s_law) (defScope s_law) [] [] (He.ga K "law") fd
def fa : List He.Fa := [.free "ValueError",
  .glo "RingError",
  .free "type",
  .free "int",
  .glo "is_integer",
  .free "list",
  .int "FRAMES" 6,
  .int "CELLS" 4,
  .glo "frame_cell",
  .int "DEVICES" 2,
  .int "REGISTERS" 4,
  .glo "doorbell",
  .int "PAGES" 6,
  .glo "table_word",
  .glo "acknowledge",
  .free "range",
  .int "RING_FRAMES" 2,
  .glo "Guard",
  .mkr "Guard",
  .glo "first_cells",
  .int "BLOCKS" 8,
  .glo "is_number",
  .free "len",
  .glo "NotValid",
  .free "abs",
  .glo "reset",
  .glo "ready",
  .glo "interrupt",
  .glo "_law_listed",
  .glo "_law_tape",
  .glo "Memory",
  .mkr "Memory",
  .cls "Memory",
  .meth "Memory" "peek",
  .free "isinstance",
  .free "bool",
  .meth "Memory" "journal",
  .cls "Guard",
  .meth "Guard" "entries",
  .meth "Guard" "queue",
  .meth "Memory" "block",
  .free "min",
  .glo "_law_at",
  .glo "_law_told",
  .meth "Memory" "log",
  .noat "Guard" "_entries",
  .noat "Guard" "_queue",
  .noat "Guard" "_tickets",
  .noat "Memory" "count",
  .noat "Memory" "guards",
  .noat "Memory" "_cells",
  .noat "Memory" "_blocks",
  .noat "Memory" "_journals",
  .noat "Memory" "_log",
  .free "sorted",
  .exm "NotValid" "RingError" true,
  .glo "law"]
def exs : List Ex := [.vei,
  .clf "RingError" "__init__",
  .oex "NotValid",
  .ity "NotValid" "__init__",
  .exi "NotValid",
  .kit "NotValid" "NotValid" true]
def fn : List He.DefD := [d_RingError___init__,
  d_NotValid___init__,
  d_is_integer,
  d_is_number,
  d_Guard___init__,
  d_Guard_entries,
  d_Guard_queue,
  d_frame_cell,
  d_doorbell,
  d_reset,
  d_ready,
  d_interrupt,
  d_table_word,
  d_acknowledge,
  d_first_cells,
  d_Memory___init__,
  d_Memory_peek,
  d_Memory_block,
  d_Memory_journal,
  d_Memory_log,
  d__law_tape,
  d__law_at,
  d__law_listed,
  d__law_told,
  d_law]
def ts : List He.Tab := []
theorem top_of {w : World} {h : Heap} {K : PySem.W.Frag} {mg : Str → Option Value} (X : K.In h) (G : h.Ns mainGlobals mg) (c : SaysR fa fn ts exs w K) : Top K mg where
  b_ValueError := He.free_ok X G (c.t.d.fact 0 (f := .free "ValueError") rfl)
  vei := vei_ok (ex_at c 0 (f := .vei) rfl)
  cf_RingError___init__ := clf_ok (ex_at c 1 (f := .clf "RingError" "__init__") rfl)
  g_RingError := He.glo_ok X G (c.t.d.fact 1 (f := .glo "RingError") rfl)
  b_type := He.free_ok X G (c.t.d.fact 2 (f := .free "type") rfl)
  b_int := He.free_ok X G (c.t.d.fact 3 (f := .free "int") rfl)
  g_is_integer := He.glo_ok X G (c.t.d.fact 4 (f := .glo "is_integer") rfl)
  b_list := He.free_ok X G (c.t.d.fact 5 (f := .free "list") rfl)
  c_FRAMES := int_at X G (c.t.d.fact 6 (f := .int "FRAMES" 6) rfl)
  c_CELLS := int_at X G (c.t.d.fact 7 (f := .int "CELLS" 4) rfl)
  g_frame_cell := He.glo_ok X G (c.t.d.fact 8 (f := .glo "frame_cell") rfl)
  c_DEVICES := int_at X G (c.t.d.fact 9 (f := .int "DEVICES" 2) rfl)
  c_REGISTERS := int_at X G (c.t.d.fact 10 (f := .int "REGISTERS" 4) rfl)
  g_doorbell := He.glo_ok X G (c.t.d.fact 11 (f := .glo "doorbell") rfl)
  c_PAGES := int_at X G (c.t.d.fact 12 (f := .int "PAGES" 6) rfl)
  g_table_word := He.glo_ok X G (c.t.d.fact 13 (f := .glo "table_word") rfl)
  g_acknowledge := He.glo_ok X G (c.t.d.fact 14 (f := .glo "acknowledge") rfl)
  b_range := He.free_ok X G (c.t.d.fact 15 (f := .free "range") rfl)
  c_RING_FRAMES := int_at X G (c.t.d.fact 16 (f := .int "RING_FRAMES" 2) rfl)
  g_Guard := He.glo_ok X G (c.t.d.fact 17 (f := .glo "Guard") rfl)
  mk_Guard := He.mkr_ok (c.t.d.fact 18 (f := .mkr "Guard") rfl)
  g_first_cells := He.glo_ok X G (c.t.d.fact 19 (f := .glo "first_cells") rfl)
  c_BLOCKS := int_at X G (c.t.d.fact 20 (f := .int "BLOCKS" 8) rfl)
  g_is_number := He.glo_ok X G (c.t.d.fact 21 (f := .glo "is_number") rfl)
  b_len := He.free_ok X G (c.t.d.fact 22 (f := .free "len") rfl)
  ex_NotValid := oex_ok (ex_at c 2 (f := .oex "NotValid") rfl)
  ini_NotValid := (ity_ok (ex_at c 3 (f := .ity "NotValid" "__init__") rfl)).1
  ity_NotValid := (ity_ok (ex_at c 3 (f := .ity "NotValid" "__init__") rfl)).2
  g_NotValid := He.glo_ok X G (c.t.d.fact 23 (f := .glo "NotValid") rfl)
  b_abs := He.free_ok X G (c.t.d.fact 24 (f := .free "abs") rfl)
  g_reset := He.glo_ok X G (c.t.d.fact 25 (f := .glo "reset") rfl)
  g_ready := He.glo_ok X G (c.t.d.fact 26 (f := .glo "ready") rfl)
  g_interrupt := He.glo_ok X G (c.t.d.fact 27 (f := .glo "interrupt") rfl)
  g__law_listed := He.glo_ok X G (c.t.d.fact 28 (f := .glo "_law_listed") rfl)
  g__law_tape := He.glo_ok X G (c.t.d.fact 29 (f := .glo "_law_tape") rfl)
  g_Memory := He.glo_ok X G (c.t.d.fact 30 (f := .glo "Memory") rfl)
  mk_Memory := He.mkr_ok (c.t.d.fact 31 (f := .mkr "Memory") rfl)
  cl_Memory := He.cls_ok (c.t.d.fact 32 (f := .cls "Memory") rfl)
  me_Memory_peek := He.meth_ok (c.t.d.fact 33 (f := .meth "Memory" "peek") rfl)
  b_isinstance := He.free_ok X G (c.t.d.fact 34 (f := .free "isinstance") rfl)
  b_bool := He.free_ok X G (c.t.d.fact 35 (f := .free "bool") rfl)
  me_Memory_journal := He.meth_ok (c.t.d.fact 36 (f := .meth "Memory" "journal") rfl)
  cl_Guard := He.cls_ok (c.t.d.fact 37 (f := .cls "Guard") rfl)
  me_Guard_entries := He.meth_ok (c.t.d.fact 38 (f := .meth "Guard" "entries") rfl)
  me_Guard_queue := He.meth_ok (c.t.d.fact 39 (f := .meth "Guard" "queue") rfl)
  me_Memory_block := He.meth_ok (c.t.d.fact 40 (f := .meth "Memory" "block") rfl)
  b_min := He.free_ok X G (c.t.d.fact 41 (f := .free "min") rfl)
  g__law_at := He.glo_ok X G (c.t.d.fact 42 (f := .glo "_law_at") rfl)
  g__law_told := He.glo_ok X G (c.t.d.fact 43 (f := .glo "_law_told") rfl)
  me_Memory_log := He.meth_ok (c.t.d.fact 44 (f := .meth "Memory" "log") rfl)
  na_Guard__entries := He.noat_ok (c.t.d.fact 45 (f := .noat "Guard" "_entries") rfl)
  na_Guard__queue := He.noat_ok (c.t.d.fact 46 (f := .noat "Guard" "_queue") rfl)
  na_Guard__tickets := He.noat_ok (c.t.d.fact 47 (f := .noat "Guard" "_tickets") rfl)
  na_Memory_count := He.noat_ok (c.t.d.fact 48 (f := .noat "Memory" "count") rfl)
  na_Memory_guards := He.noat_ok (c.t.d.fact 49 (f := .noat "Memory" "guards") rfl)
  na_Memory__cells := He.noat_ok (c.t.d.fact 50 (f := .noat "Memory" "_cells") rfl)
  na_Memory__blocks := He.noat_ok (c.t.d.fact 51 (f := .noat "Memory" "_blocks") rfl)
  na_Memory__journals := He.noat_ok (c.t.d.fact 52 (f := .noat "Memory" "_journals") rfl)
  na_Memory__log := He.noat_ok (c.t.d.fact 53 (f := .noat "Memory" "_log") rfl)
  b_sorted := He.free_ok X G (c.t.d.fact 54 (f := .free "sorted") rfl)
  xc_NotValid := exi_ok (ex_at c 4 (f := .exi "NotValid") rfl)
  exm_NotValid_RingError_T := He.exm_ok (c.t.d.fact 55 (f := .exm "NotValid" "RingError" true) rfl)
  kit_NotValid_NotValid_T := kit_ok (ex_at c 5 (f := .kit "NotValid" "NotValid" true) rfl)
  g_law := He.glo_ok X G (c.t.d.fact 56 (f := .glo "law") rfl)
  d_RingError___init__ := c.t.d.def_ 0 (d := d_RingError___init__) rfl
  d_NotValid___init__ := c.t.d.def_ 1 (d := d_NotValid___init__) rfl
  d_is_integer := c.t.d.def_ 2 (d := d_is_integer) rfl
  d_is_number := c.t.d.def_ 3 (d := d_is_number) rfl
  d_Guard___init__ := c.t.d.def_ 4 (d := d_Guard___init__) rfl
  d_Guard_entries := c.t.d.def_ 5 (d := d_Guard_entries) rfl
  d_Guard_queue := c.t.d.def_ 6 (d := d_Guard_queue) rfl
  d_frame_cell := c.t.d.def_ 7 (d := d_frame_cell) rfl
  d_doorbell := c.t.d.def_ 8 (d := d_doorbell) rfl
  d_reset := c.t.d.def_ 9 (d := d_reset) rfl
  d_ready := c.t.d.def_ 10 (d := d_ready) rfl
  d_interrupt := c.t.d.def_ 11 (d := d_interrupt) rfl
  d_table_word := c.t.d.def_ 12 (d := d_table_word) rfl
  d_acknowledge := c.t.d.def_ 13 (d := d_acknowledge) rfl
  d_first_cells := c.t.d.def_ 14 (d := d_first_cells) rfl
  d_Memory___init__ := c.t.d.def_ 15 (d := d_Memory___init__) rfl
  d_Memory_peek := c.t.d.def_ 16 (d := d_Memory_peek) rfl
  d_Memory_block := c.t.d.def_ 17 (d := d_Memory_block) rfl
  d_Memory_journal := c.t.d.def_ 18 (d := d_Memory_journal) rfl
  d_Memory_log := c.t.d.def_ 19 (d := d_Memory_log) rfl
  d__law_tape := c.t.d.def_ 20 (d := d__law_tape) rfl
  d__law_at := c.t.d.def_ 21 (d := d__law_at) rfl
  d__law_listed := c.t.d.def_ 22 (d := d__law_listed) rfl
  d__law_told := c.t.d.def_ 23 (d := d__law_told) rfl
  d_law := c.t.d.def_ 24 (d := d_law) rfl
def loose : List Str := (["RingError", "NotValid", "is_integer", "is_number", "is_value", "DEVICES", "PAGES", "FRAMES", "CELLS", "RIGHTS", "is_word", "Guard", "BLOCKS", "RING_FRAMES", "REGISTERS", "FORMS", "frame_cell", "doorbell", "reset", "ready", "interrupt", "table_word", "acknowledge", "first_cells", "is_tuple_of_values", "fits", "is_actor", "has_form", "stands_in", "is_register"] : List Str) ++ (["is_table_word", "may_reach", "is_allowed", "Memory", "_law_tape", "_law_at", "_law_listed", "_law_told"] : List Str)
abbrev lawAt : Nat := 43
end Rb
namespace Rb
open PySem PySem.Spec PyProof.Rows L2
section
variable {P : Program} {w : World} {K : PySem.W.Frag} {mg : Str → Option Value} {base : Heap}
def spVeI (K : PySem.W.Frag) : Sp := fun vs H Q _ => ∃ (a C : Addr), vs = [.ref a] ∧ OexC K C ∧ H a = some (exo a C none) ∧ Q .non H
theorem ok_RingError_init (T : Top K mg) : FnC P w K mg base CX0 1 (He.ma K (He.ga K "RingError") "__init__") (spVeI K) := by
  refine fnc0 T.d_RingError___init__ sc_RingError___init__ (fun _ _ _ _ _ _ us hl => match us, hl with | [_], _ => rfl) (fun vs H Q E h => ?_) (fun cdv A outer s H vs Q E hr h => ?_)
  · obtain ⟨a, C, rfl, _⟩ := h
    rfl
  · obtain ⟨a, C, rfl, o, e, k⟩ := h
    refine ⟨_, (pss_one (ps_expr (pe_veinit (by rfl) T.b_ValueError T.vei (pa_cons (pv 0) pa_nil)))), ?_⟩
    exact ⟨_, rfl, a, C, [], rfl, Nat.zero_le _, o, e, k⟩
theorem ok_NotValid_init (T : Top K mg) : FnC P w K mg base CX0 2 (He.ma K (He.ga K "NotValid") "__init__") (spVeI K) := by
  have G_RingError___init__ := ok_RingError_init (P := P) (w := w) (base := base) T
  refine fnc0 T.d_NotValid___init__ sc_NotValid___init__ (fun _ _ _ _ _ _ us hl => match us, hl with | [_], _ => rfl) (fun vs H Q E h => ?_) (fun cdv A outer s H vs Q E hr h => ?_)
  · obtain ⟨a, C, rfl, _⟩ := h
    rfl
  · obtain ⟨a, C, rfl, o, e, k⟩ := h
    refine ⟨_, (pss_one (ps_expr (pe_cls T.cf_RingError___init__ G_RingError___init__ hr (by decide) (by rfl) T.g_RingError pass0 (pa_cons (pv 0) pa_nil)))), ?_⟩
    exact ⟨_, rfl, a, C, rfl, o, e, k⟩
def spIsInt (K : PySem.W.Frag) : Sp := fun vs H Q _ => ∃ (v : V) (N : String), vs = [v] ∧ TyB K H v N ∧ Q (.bl (decide (N = "int"))) H
theorem ok_is_integer (T : Top K mg) : FnC P w K mg base CX0 1 (He.ga K "is_integer") (spIsInt K) := by
  refine fnc0 T.d_is_integer sc_is_integer (fun _ _ _ _ _ _ us hl => match us, hl with | [_], _ => rfl) (fun vs H Q E h => ?_) (fun cdv A outer s H vs Q E hr h => ?_)
  · obtain ⟨v, N, rfl, _⟩ := h
    rfl
  · obtain ⟨v, N, rfl, hN, k⟩ := h
    refine ⟨_, (pss_one (ps_ret (pe_cmpR op_isTyB (pe_callTy call_type1 (by rfl) T.b_type (by decide +kernel) (pa_cons (pv 0) pa_nil)) (pe_bltn (v := .ty "int") (by rfl) T.b_int (by decide +kernel) rfl) (nomark _)))), ?_⟩
    exact ⟨_, rfl, _, N, rfl, hN, _, _, rfl, rfl, k⟩
def isNum : V → Int → Bool
  | .int i, l => decide (0 ≤ i) && decide (i < l)
  | _, _ => false
def spIsNum (K : PySem.W.Frag) : Sp := fun vs H Q _ => ∃ (v : V) (N : String) (l : Int), vs = [v, .int l] ∧ TyB K H v N ∧ Q (.bl (isNum v l)) H
theorem ok_is_number (T : Top K mg) : FnC P w K mg base CX0 2 (He.ga K "is_number") (spIsNum K) := by
  have G_is_integer := ok_is_integer (P := P) (w := w) (base := base) T
  refine fnc0 T.d_is_number sc_is_number (fun _ _ _ _ _ _ us hl => match us, hl with | [_, _], _ => rfl) (fun vs H Q E h => ?_) (fun cdv A outer s H vs Q E hr h => ?_)
  · obtain ⟨v, N, l, rfl, _⟩ := h
    rfl
  · obtain ⟨v, N, l, rfl, hN, k⟩ := h
    refine ⟨_, (pss_one (ps_ret (pe_and (pe_f G_is_integer hr (by decide) (by rfl) T.g_is_integer pass0 (pa_cons (pv 0) pa_nil)) (pe_one (pe_chain op_le op_lt pe_int (pv 0) (pv 1)))))), ?_⟩
    refine ⟨_, rfl, _, N, rfl, hN, _, rfl, ?_⟩
    cases hN with
    | int i =>
      refine ⟨_, rfl, _, _, rfl, rfl, _, rfl, ?_⟩
      show if decide ((0 : Int) ≤ i) = true then _ else _
      by_cases c : (0 : Int) ≤ i
      · rw [decide_eq_true c]
        refine ⟨_, rfl, _, _, rfl, rfl, ?_⟩
        have e : isNum (.int i) l = decide (i < l) := by
          show (decide (0 ≤ i) && decide (i < l)) = _
          rw [decide_eq_true c, Bool.true_and]
        rw [e] at k
        exact k
      · rw [decide_eq_false c]
        have e : isNum (.int i) l = false := by
          show (decide (0 ≤ i) && decide (i < l)) = _
          rw [decide_eq_false c, Bool.false_and]
        rw [e] at k
        exact k
    | _ => exact k
end
end Rb
namespace Rb
open PySem PySem.Spec PyProof.Rows L2
section
variable {P : Program} {w : World} {K : PySem.W.Frag} {mg : Str → Option Value} {base : Heap}
/-! ### the numbers of the cells -/
def fcell (d f i : Int) : Int := (d * 6 + f) * 4 + i
def sp3 (g : Int → Int → Int → Int) : Sp := fun vs H Q _ => ∃ a b c : Int, vs = [.int a, .int b, .int c] ∧ Q (.int (g a b c)) H
def sp2 (g : Int → Int → Int) : Sp := fun vs H Q _ => ∃ a b : Int, vs = [.int a, .int b] ∧ Q (.int (g a b)) H
def sp1 (g : Int → Int) : Sp := fun vs H Q _ => ∃ a : Int, vs = [.int a] ∧ Q (.int (g a)) H
theorem ok_frame_cell (T : Top K mg) : FnC P w K mg base CX0 1 (He.ga K "frame_cell") (sp3 fcell) := by
  refine fnc0 T.d_frame_cell sc_frame_cell (fun _ _ _ _ _ _ us hl => match us, hl with | [_, _, _], _ => rfl) (fun vs H Q E h => ?_) (fun cdv A outer s H vs Q E hr h => ?_)
  · obtain ⟨a, b, c, rfl, _⟩ := h
    rfl
  · obtain ⟨a, b, c, rfl, k⟩ := h
    refine ⟨_, (pss_one (ps_ret (pe_op op_add (pe_op op_mul (pe_op op_add (pe_op op_mul (pv 0) (pe_gc (by rfl) T.c_FRAMES)) (pv 1)) (pe_gc (by rfl) T.c_CELLS)) (pv 2)))), ?_⟩
    exact ⟨_, rfl, _, _, rfl, rfl, .inr ⟨by decide, by decide⟩, _, rfl, _, _, rfl, rfl, _, _, rfl, rfl, .inr ⟨by decide, by decide⟩, _, rfl, _, _, rfl, rfl, k⟩
def dbell (d : Int) : Int := 48 + d * 4
theorem ok_doorbell (T : Top K mg) : FnC P w K mg base CX0 2 (He.ga K "doorbell") (sp1 dbell) := by
  have G_frame_cell := ok_frame_cell (P := P) (w := w) (base := base) T
  refine fnc0 T.d_doorbell sc_doorbell (fun _ _ _ _ _ _ us hl => match us, hl with | [_], _ => rfl) (fun vs H Q E h => ?_) (fun cdv A outer s H vs Q E hr h => ?_)
  · obtain ⟨a, rfl, _⟩ := h
    rfl
  · obtain ⟨a, rfl, k⟩ := h
    refine ⟨_, (pss_one (ps_ret (pe_op op_add (pe_f G_frame_cell hr (by decide) (by rfl) T.g_frame_cell pass0 (pa_cons (pe_gc (by rfl) T.c_DEVICES) (pa_cons pe_int (pa_cons pe_int pa_nil)))) (pe_op op_mul (pv 0) (pe_gc (by rfl) T.c_REGISTERS))))), ?_⟩
    exact ⟨_, _, _, rfl, _, rfl, _, _, rfl, rfl, .inr ⟨by decide, by decide⟩, _, _, rfl, rfl, k⟩
theorem ok_reset (T : Top K mg) : FnC P w K mg base CX0 3 (He.ga K "reset") (sp1 fun d => dbell d + 1) := by
  have G_doorbell := ok_doorbell (P := P) (w := w) (base := base) T
  refine fnc0 T.d_reset sc_reset (fun _ _ _ _ _ _ us hl => match us, hl with | [_], _ => rfl) (fun vs H Q E h => ?_) (fun cdv A outer s H vs Q E hr h => ?_)
  · obtain ⟨a, rfl, _⟩ := h
    rfl
  · obtain ⟨a, rfl, k⟩ := h
    refine ⟨_, (pss_one (ps_ret (pe_op op_add (pe_f G_doorbell hr (by decide) (by rfl) T.g_doorbell pass0 (pa_cons (pv 0) pa_nil)) pe_int))), ?_⟩
    exact ⟨_, rfl, _, rfl, _, _, rfl, rfl, k⟩
theorem ok_ready (T : Top K mg) : FnC P w K mg base CX0 3 (He.ga K "ready") (sp1 fun d => dbell d + 2) := by
  have G_doorbell := ok_doorbell (P := P) (w := w) (base := base) T
  refine fnc0 T.d_ready sc_ready (fun _ _ _ _ _ _ us hl => match us, hl with | [_], _ => rfl) (fun vs H Q E h => ?_) (fun cdv A outer s H vs Q E hr h => ?_)
  · obtain ⟨a, rfl, _⟩ := h
    rfl
  · obtain ⟨a, rfl, k⟩ := h
    refine ⟨_, (pss_one (ps_ret (pe_op op_add (pe_f G_doorbell hr (by decide) (by rfl) T.g_doorbell pass0 (pa_cons (pv 0) pa_nil)) pe_int))), ?_⟩
    exact ⟨_, rfl, _, rfl, _, _, rfl, rfl, k⟩
theorem ok_interrupt (T : Top K mg) : FnC P w K mg base CX0 3 (He.ga K "interrupt") (sp1 fun d => dbell d + 3) := by
  have G_doorbell := ok_doorbell (P := P) (w := w) (base := base) T
  refine fnc0 T.d_interrupt sc_interrupt (fun _ _ _ _ _ _ us hl => match us, hl with | [_], _ => rfl) (fun vs H Q E h => ?_) (fun cdv A outer s H vs Q E hr h => ?_)
  · obtain ⟨a, rfl, _⟩ := h
    rfl
  · obtain ⟨a, rfl, k⟩ := h
    refine ⟨_, (pss_one (ps_ret (pe_op op_add (pe_f G_doorbell hr (by decide) (by rfl) T.g_doorbell pass0 (pa_cons (pv 0) pa_nil)) pe_int))), ?_⟩
    exact ⟨_, rfl, _, rfl, _, _, rfl, rfl, k⟩
def tword (d p : Int) : Int := 56 + d * 6 + p
theorem ok_table_word (T : Top K mg) : FnC P w K mg base CX0 3 (He.ga K "table_word") (sp2 tword) := by
  have G_doorbell := ok_doorbell (P := P) (w := w) (base := base) T
  refine fnc0 T.d_table_word sc_table_word (fun _ _ _ _ _ _ us hl => match us, hl with | [_, _], _ => rfl) (fun vs H Q E h => ?_) (fun cdv A outer s H vs Q E hr h => ?_)
  · obtain ⟨a, b, rfl, _⟩ := h
    rfl
  · obtain ⟨a, b, rfl, k⟩ := h
    refine ⟨_, (pss_one (ps_ret (pe_op op_add (pe_op op_add (pe_f G_doorbell hr (by decide) (by rfl) T.g_doorbell pass0 (pa_cons (pe_gc (by rfl) T.c_DEVICES) pa_nil)) (pe_op op_mul (pv 0) (pe_gc (by rfl) T.c_PAGES))) (pv 1)))), ?_⟩
    exact ⟨_, rfl, _, rfl, _, _, rfl, rfl, .inr ⟨by decide, by decide⟩, _, _, rfl, rfl, _, rfl, _, _, rfl, rfl, k⟩
def ackw (d : Int) : Int := 68 + d
theorem ok_acknowledge (T : Top K mg) : FnC P w K mg base CX0 4 (He.ga K "acknowledge") (sp1 ackw) := by
  have G_table_word := ok_table_word (P := P) (w := w) (base := base) T
  refine fnc0 T.d_acknowledge sc_acknowledge (fun _ _ _ _ _ _ us hl => match us, hl with | [_], _ => rfl) (fun vs H Q E h => ?_) (fun cdv A outer s H vs Q E hr h => ?_)
  · obtain ⟨a, rfl, _⟩ := h
    rfl
  · obtain ⟨a, rfl, k⟩ := h
    refine ⟨_, (pss_one (ps_ret (pe_op op_add (pe_f G_table_word hr (by decide) (by rfl) T.g_table_word pass0 (pa_cons (pe_gc (by rfl) T.c_DEVICES) (pa_cons pe_int pa_nil))) (pv 0)))), ?_⟩
    exact ⟨_, _, rfl, _, rfl, _, _, rfl, rfl, k⟩
end
end Rb
namespace Rb
open PySem PySem.Spec PyProof.Rows L2
/-! ### the first cells -/
def fcI (xs : List V) (d f : Int) : Nat → List V
  | 0 => xs
  | j + 1 => (fcI xs d f j).set (fcell d f (0 + (j : Int))).toNat .non
def fcF (xs : List V) (d : Int) : Nat → List V
  | 0 => xs
  | f + 1 => fcI (fcF xs d f) d (0 + (f : Int)) 4
def fcP (xs : List V) (d : Int) : Nat → List V
  | 0 => xs
  | p + 1 => (fcP xs d p).set (tword d (0 + (p : Int))).toNat .non
def fcD : Nat → List V
  | 0 => List.replicate 70 (.int 0)
  | d + 1 => fcP (fcF (fcD d) (0 + (d : Int)) 2) (0 + (d : Int)) 6
/-- the cells of a new memory -/
def cells0 : List V := fcD 2
theorem fcI_len {xs : List V} {d f : Int} : ∀ n, (fcI xs d f n).length = xs.length
  | 0 => rfl
  | n + 1 => by
    show ((fcI xs d f n).set _ _).length = _
    rw [List.length_set, fcI_len n]
theorem fcF_len {xs : List V} {d : Int} : ∀ n, (fcF xs d n).length = xs.length
  | 0 => rfl
  | n + 1 => by
    show (fcI _ _ _ 4).length = _
    rw [fcI_len, fcF_len n]
theorem fcP_len {xs : List V} {d : Int} : ∀ n, (fcP xs d n).length = xs.length
  | 0 => rfl
  | n + 1 => by
    show ((fcP xs d n).set _ _).length = _
    rw [List.length_set, fcP_len n]
theorem fcD_len : ∀ n, (fcD n).length = 70
  | 0 => List.length_replicate
  | n + 1 => by
    show (fcP _ _ 6).length = _
    rw [fcP_len, fcF_len, fcD_len n]
theorem ixN_in {n : Nat} {i : Int} (h0 : 0 ≤ i) (h1 : i < n) : ixN n i = some i.toNat := by
  unfold ixN
  rw [if_pos h0, if_pos h1]
def spFirst : Sp := fun vs H Q _ => vs = [] ∧ ∀ (p : Addr) (H' : Hp), H p = none → Same H H' → H' p = some (.lst cells0) → Q (.ref p) H'
section
variable {P : Program} {w : World} {K : PySem.W.Frag} {mg : Str → Option Value} {base : Heap}
theorem ok_first_cells (T : Top K mg) : FnC P w K mg base CX0 5 (He.ga K "first_cells") spFirst := by
  have G_frame_cell := ok_frame_cell (P := P) (w := w) (base := base) T
  have G_table_word := ok_table_word (P := P) (w := w) (base := base) T
  have G_acknowledge := ok_acknowledge (P := P) (w := w) (base := base) T
  refine fnc0 T.d_first_cells sc_first_cells (fun _ _ _ _ _ _ us hl => match us, hl with | [], _ => rfl) (fun vs H Q E h => ?_) (fun cdv A outer s H vs Q E hr h => ?_)
  · obtain ⟨rfl, _⟩ := h
    rfl
  · obtain ⟨rfl, k⟩ := h
    refine ⟨_, (pss_cons (ps_set (i := 0) sc_first_cells.nd rfl (Or.inl rfl) (pe_op op_rep (pe_lst (pa_cons pe_int pa_nil)) (pe_f G_acknowledge hr (by decide) (by rfl) T.g_acknowledge pass0 (pa_cons (pe_gc (by rfl) T.c_DEVICES) pa_nil))))
    (pss_cons (ps_for PassesOwn.never rfl (pi_range1 (by rfl) T.b_range (pa_cons (pe_gc (by rfl) T.c_DEVICES) pa_nil)) (pg_name (i := 1) sc_first_cells.nd rfl (Or.inl rfl)) (pss_cons (ps_for PassesOwn.never rfl (pi_range1 (by rfl) T.b_range (pa_cons (pe_gc (by rfl) T.c_RING_FRAMES) pa_nil)) (pg_name (i := 2) sc_first_cells.nd rfl (Or.inl rfl)) (pss_one (ps_for PassesOwn.never rfl (pi_range1 (by rfl) T.b_range (pa_cons (pe_gc (by rfl) T.c_CELLS) pa_nil)) (pg_name (i := 3) sc_first_cells.nd rfl (Or.inl rfl)) (pss_one (ps_asg pe_non (pg_sub (pv 0) (pe_f G_frame_cell hr (by decide) (by rfl) T.g_frame_cell pass0 (pa_cons (pv 1) (pa_cons (pv 2) (pa_cons (pv 3) pa_nil)))) set_list))))))
    (pss_one (ps_for PassesOwn.never rfl (pi_range1 (by rfl) T.b_range (pa_cons (pe_gc (by rfl) T.c_PAGES) pa_nil)) (pg_name (i := 4) sc_first_cells.nd rfl (Or.inl rfl)) (pss_one (ps_asg pe_non (pg_sub (pv 0) (pe_f G_table_word hr (by decide) (by rfl) T.g_table_word pass0 (pa_cons (pv 1) (pa_cons (pv 4) pa_nil))) set_list)))))))
    (pss_one (ps_ret (pv 0))))), ?_⟩
    refine ⟨by decide, fun q hq => ⟨_, rfl, q, 70, [.int 0], rfl, rfl, upd_same, by decide, by decide, by decide, fun p hp => ?_⟩⟩
    have hp0 : H p = none := by
      by_cases e : p = q
      · rw [e]
        exact hq
      · rw [upd_ne e] at hp
        exact hp
    have s0 : Same H (upd (upd H q (.lst [.int 0])) p (.lst (List.replicate (70 : Int).toNat [V.int 0]).flatten)) := fun b o e => by
      rw [upd_ne (ne_of_none e hp0), upd_ne (ne_of_none e hq)]
      exact e
    refine ⟨2, rfl, by decide, by decide, for_range (n := 2) (fun i σ H1 => ∃ x1 x2 x3 x4, σ = [some (.ref p), x1, x2, x3, x4] ∧ H1 p = some (.lst (fcD i)) ∧ Same H H1) ?_ ?_ ?_⟩
    · exact ⟨none, none, none, none, rfl, upd_same, s0⟩
    · rintro i σ H1 hi ⟨x1, x2, x3, x4, rfl, e1, s1⟩
      -- for frame in range(RING_FRAMES)
      refine ⟨2, rfl, by decide, by decide, for_range (n := 2) (fun f σ H2 => ∃ x2 x3 x4, σ = [some (.ref p), some (.int (0 + (i : Int))), x2, x3, x4] ∧ H2 p = some (.lst (fcF (fcD i) (0 + (i : Int)) f)) ∧ Same H H2) ?_ ?_ ?_⟩
      · exact ⟨x2, x3, x4, rfl, e1, s1⟩
      · rintro f σ H2 hf ⟨x2, x3, x4, rfl, e2, s2⟩
        refine ⟨4, rfl, by decide, by decide, for_range (n := 4) (fun j σ H3 => ∃ x3 x4, σ = [some (.ref p), some (.int (0 + (i : Int))), some (.int (0 + (f : Int))), x3, x4] ∧ H3 p = some (.lst (fcI (fcF (fcD i) (0 + (i : Int)) f) (0 + (i : Int)) (0 + (f : Int)) j)) ∧ Same H H3) ?_ ?_ ?_⟩
        · exact ⟨x3, x4, rfl, e2, s2⟩
        · rintro j σ H3 hj ⟨x3, x4, rfl, e3, s3⟩
          refine ⟨_, rfl, _, rfl, _, rfl, _, rfl, _, _, _, rfl, p, _, _, _, rfl, rfl, e3, ixN_in ?_ ?_, ?_⟩
          · show 0 ≤ fcell (0 + (i : Int)) (0 + (f : Int)) (0 + (j : Int))
            unfold fcell
            omega
          · rw [fcI_len, fcF_len, fcD_len]
            show fcell (0 + (i : Int)) (0 + (f : Int)) (0 + (j : Int)) < 70
            unfold fcell
            omega
          · refine ⟨_, _, rfl, upd_same, fun b o e => ?_⟩
            rw [upd_ne (ne_of_none e hp0)]
            exact s3 b o e
        · rintro σ H3 ⟨x3, x4, rfl, e3, s3⟩
          exact ⟨_, _, _, rfl, e3, s3⟩
      · rintro σ H2 ⟨x2, x3, x4, rfl, e2, s2⟩
        -- for page in range(PAGES)
        refine ⟨6, rfl, by decide, by decide, for_range (n := 6) (fun j σ H3 => ∃ x2 x3 x4, σ = [some (.ref p), some (.int (0 + (i : Int))), x2, x3, x4] ∧ H3 p = some (.lst (fcP (fcF (fcD i) (0 + (i : Int)) 2) (0 + (i : Int)) j)) ∧ Same H H3) ?_ ?_ ?_⟩
        · exact ⟨x2, x3, x4, rfl, e2, s2⟩
        · rintro j σ H3 hj ⟨x2, x3, x4, rfl, e3, s3⟩
          refine ⟨_, rfl, _, rfl, _, rfl, _, _, rfl, p, _, _, _, rfl, rfl, e3, ixN_in ?_ ?_, ?_⟩
          · show 0 ≤ tword (0 + (i : Int)) (0 + (j : Int))
            unfold tword
            omega
          · rw [fcP_len, fcF_len, fcD_len]
            show tword (0 + (i : Int)) (0 + (j : Int)) < 70
            unfold tword
            omega
          · refine ⟨_, _, _, rfl, upd_same, fun b o e => ?_⟩
            rw [upd_ne (ne_of_none e hp0)]
            exact s3 b o e
        · rintro σ H3 ⟨x2, x3, x4, rfl, e3, s3⟩
          exact ⟨_, _, _, _, rfl, e3, s3⟩
    · rintro σ H1 ⟨x1, x2, x3, x4, rfl, e1, s1⟩
      exact ⟨_, rfl, k p H1 hp0 s1 e1⟩
end
end Rb
namespace Rb
open PySem PySem.Spec PyProof.Rows L2
abbrev CG (K : PySem.W.Frag) : Addr := He.ga K "Guard"
abbrev CM (K : PySem.W.Frag) : Addr := He.ga K "Memory"
def spGuardI (C : Addr) : Sp := fun vs H Q _ => ∃ (g d : Addr), vs = [.ref g] ∧ H g = some (.ins C d []) ∧ H d = some (.own g) ∧
  ∀ (e q : Addr) (H' : Hp), H e = none → H q = none → e ≠ q → GuardAt C ⟨g, d, e, q⟩ H' ⟨[], [], 0⟩ → (∀ b o, H b = some o → b ≠ g → H' b = some o) → Q .non H'
section
variable {P : Program} {w : World} {K : PySem.W.Frag} {mg : Str → Option Value} {base : Heap}
theorem ok_Guard_init (T : Top K mg) : FnC P w K mg base CX0 1 (He.ma K (He.ga K "Guard") "__init__") (spGuardI (CG K)) := by
  refine fnc0 T.d_Guard___init__ sc_Guard___init__ (fun _ _ _ _ _ _ us hl => match us, hl with | [_], _ => rfl) (fun vs H Q E h => ?_) (fun cdv A outer s H vs Q E hr h => ?_)
  · obtain ⟨g, d, rfl, _⟩ := h
    rfl
  · obtain ⟨g, d, rfl, hg, hd, k⟩ := h
    refine ⟨_, (pss_cons (ps_fld (pv 0) pe_dnewK rfl)
    (pss_cons (ps_fld (pv 0) (pe_lst pa_nil) rfl)
    (pss_one (ps_fld (pv 0) pe_int rfl)))), ?_⟩
    intro e he
    have nge : g ≠ e := ne_of_none hg he
    have nde : d ≠ e := ne_of_none hd he
    refine ⟨_, rfl, g, CG K, d, List.zip [] [], rfl, (upd_ne nge).trans hg, T.cl_Guard, T.na_Guard__entries, (by decide), ?_⟩
    refine ⟨by decide, fun q hq => ?_⟩
    obtain ⟨nqg, hq⟩ := free_upd hq
    obtain ⟨nqe, hq⟩ := free_upd hq
    have nge' := nge.symm
    refine ⟨_, rfl, g, CG K, d, List.zip ["_entries"] [.ref e], rfl, ?_, T.cl_Guard, T.na_Guard__queue, (by show 1 < 1000; decide), ?_⟩
    · rw [upd_ne nqg.symm, upd_same, zx (by decide +kernel) rfl]
      rfl
    refine ⟨_, rfl, g, CG K, d, List.zip ["_entries", "_queue"] [.ref e, .ref q], rfl, ?_, T.cl_Guard, T.na_Guard__tickets, (by show 2 < 1000; decide), ?_⟩
    · rw [upd_same, zx (by decide +kernel) rfl]
      rfl
    refine k e q _ he hq nqe.symm ⟨?_, ?_, ?_, ?_⟩ fun b o hb nb => ?_
    · rw [upd_same, zx (by decide +kernel) rfl]
      rfl
    · show _ = some (HO.own g)
      rw [upd_ne (ne_of hd hg (by intro z; cases z)), upd_ne (ne_of hd hg (by intro z; cases z)), upd_ne (ne_of_none hd hq), upd_ne (ne_of hd hg (by intro z; cases z)), upd_ne nde]
      exact hd
    · show _ = some (HO.dK [])
      rw [upd_ne nge', upd_ne nge', upd_ne nqe.symm, upd_ne nge', upd_same]
    · show _ = some (HO.lst [])
      rw [upd_ne nqg, upd_ne nqg, upd_same]
    · rw [upd_ne nb, upd_ne nb, upd_ne (ne_of_none hb hq), upd_ne nb, upd_ne (ne_of_none hb he)]
      exact hb
end
end Rb
namespace Rb
open PySem PySem.Spec PyProof.Rows L2
def G0 : GS := ⟨[], [], 0⟩
def M0 (z : Nat → Addr) (t : Addr) : MS := ⟨0, cells0, fun d => List.replicate 8 (.ref (z d)), [.ref t, .ref t], [], fun _ => G0⟩
def spMemI (Cm Cg : Addr) : Sp := fun vs H Q _ => ∃ (m d : Addr), vs = [.ref m] ∧ H m = some (.ins Cm d []) ∧ H d = some (.own m) ∧ m ≠ d ∧
  ∀ (L : ML) (H' : Hp) (z : Nat → Addr) (t : Addr), L.m = m → L.d = d → MemAt Cm Cg L H' (M0 z t) → (∀ a ∈ L.all, a = m ∨ a = d ∨ H a = none) →
    (∀ i, i < 2 → H' (z i) = some (.tup [.int 0, .int 0, .int 0, .int 0])) → H' t = some (.tup []) → (∀ b o, H b = some o → b ≠ m → H' b = some o) → Q .non H'
theorem upd_keep {H H1 : Hp} {m : Addr} {o : HO} (k : ∀ b u, H b = some u → b ≠ m → H1 b = some u) : ∀ b u, H b = some u → b ≠ m → upd H1 m o b = some u := fun b u e n => by
  rw [upd_ne n]
  exact k b u e n
theorem new_keep {H H1 : Hp} {m p : Addr} {o : HO} (k : ∀ b u, H b = some u → b ≠ m → H1 b = some u) (hp : H1 p = none) : ∀ b u, H b = some u → b ≠ m → upd H1 p o b = some u := fun b u e n => by
  rw [upd_ne (ne_of_none (k b u e n) hp)]
  exact k b u e n
section
variable {P : Program} {w : World} {K : PySem.W.Frag} {mg : Str → Option Value} {base : Heap}
/-- [Guard() for device in range(2)], by what it leaves -/
theorem guards_comp {Cg : Addr} {H : Hp} {D m d : Addr} {σ : L2.St} {Qd : Hp → Prop} (hw : wipe (wipe σ [1]) [1] = wipe σ [1]) (hw2 : ∀ x, wipe ((wipe σ [1]).set 1 x) [1] = wipe σ [1]) (t0 : Trk H [m, d]) (hD : H D = none)
    (hd : ∀ (H1 : Hp) (gs : List GL), gs.length = 2 → H1 D = some (.lst (gs.map fun L => V.ref L.g)) → (∀ L ∈ gs, GuardAt Cg L H1 G0) → Trk H1 ([m, d, D] ++ gs.flatMap GL.all) → (∀ a ∈ gs.flatMap GL.all, H a = none) → Same H H1 → Qd H1) :
    ∃ W : Nat → Nat → Hp → Prop, (∃ n, W 0 n (upd H D (.lst []))) ∧ ∀ i n H', W i n H' →
      ((Itr 0 2).stop i H' ∧ Qd H') ∨ ((Itr 0 2).go i H' ∧ ∃ Nx : Hp → Prop, (∀ H2, Nx H2 → ∃ n', n' < n ∧ W (i + 1) n' H2) ∧ ∀ x H2, (Itr 0 2).yld i H' x H2 → gName 1 x (wipe σ [1]) H2 fun σ2 H3 => wipe σ2 [1] = wipe σ [1] ∧ tYes σ2 H3 fun b H4 =>
        if b = true then tMake Cg (spGuardI Cg) [] E0 tNil σ2 H4 fun y H5 => ∃ acc, H5 D = some (.lst acc) ∧ acc.length < sizeLine ∧ Nx (upd H5 D (.lst (acc ++ [y]))) else Nx H4) := by
  refine lc_range (n := 2) (fun i H1 => ∃ gs : List GL, gs.length = i ∧ H1 D = some (.lst (gs.map fun L => V.ref L.g)) ∧ (∀ L ∈ gs, GuardAt Cg L H1 G0) ∧ Trk H1 ([m, d, D] ++ gs.flatMap GL.all) ∧ (∀ a ∈ gs.flatMap GL.all, H a = none) ∧ Same H H1) ?_ ?_ ?_
  · refine ⟨[], rfl, upd_same, fun L hL => (nomatch hL), ?_, fun a ha => (nomatch ha), Same.new (Same.refl H) hD⟩
    exact t0.new hD
  · rintro i H1 hi ⟨gs, hl, hL, hg, tk, hf, sm⟩
    refine ⟨hw2 _, ?_⟩
    intro x dx hx hdx nex
    have g0 : upd (upd H1 dx (.own x)) x (.ins Cg dx []) x = some (.ins Cg dx []) := upd_same
    have g1 : upd (upd H1 dx (.own x)) x (.ins Cg dx []) dx = some (.own x) := by rw [upd_ne nex, upd_same]
    refine ⟨x, dx, rfl, g0, g1, fun e q H3 he hq neq GA kp => ⟨rfl, ?_⟩⟩
    obtain ⟨nex', he⟩ := free_upd he
    obtain ⟨ned, he⟩ := free_upd he
    obtain ⟨nqx, hq⟩ := free_upd hq
    obtain ⟨nqd, hq⟩ := free_upd hq
    have k13 : ∀ b o, H1 b = some o → H3 b = some o := fun b o hb => by
      refine kp b o ?_ (ne_of_none hb hx)
      rw [upd_ne (ne_of_none hb hx), upd_ne (ne_of_none hb hdx)]
      exact hb
    have hD3 := k13 _ _ hL
    have tk3 : Trk H3 ([m, d, D] ++ gs.flatMap GL.all ++ [dx, x, e, q]) := by
      refine tk.adds ?_ ?_ ?_ fun a ha hb => (tk.same k13).tr a ha
      · simp [nex, ned.symm, nqd.symm, nex'.symm, nqx.symm, neq]
      · intro p hp
        simp at hp
        rcases hp with rfl | rfl | rfl | rfl <;> assumption
      · intro p hp
        simp at hp
        rcases hp with rfl | rfl | rfl | rfl
        · exact some_ne GA.od
        · exact some_ne GA.og
        · exact some_ne GA.oe
        · exact some_ne GA.oq
    have nD : ∀ a ∈ gs.flatMap GL.all ++ [dx, x, e, q], a ≠ D := fun a ha z => by
      have n := tk3.nd
      rw [List.append_assoc, List.nodup_append] at n
      exact n.2.2 D (by simp) a ha z.symm
    refine ⟨_, hD3, ?_, gs ++ [⟨x, dx, e, q⟩], by simp [hl], ?_, fun L hL' => ?_, ?_, fun a ha => ?_, ?_⟩
    · rw [List.length_map, hl]
      exact Nat.lt_trans hi (by decide)
    · rw [upd_same, List.map_append]
      rfl
    · rcases List.mem_append.mp hL' with z | z
      · refine (hg L z).keep fun b hb => ?_
        have hm : b ∈ gs.flatMap GL.all := List.mem_flatMap.mpr ⟨L, z, hb⟩
        rw [upd_ne (nD b (List.mem_append_left _ hm))]
        have := tk.tr b (List.mem_append_right _ hm)
        cases q2 : H1 b with
        | none => exact absurd q2 this
        | some o => exact k13 b o q2
      · rw [List.mem_singleton] at z
        subst z
        refine GA.keep fun b hb => ?_
        rw [upd_ne (nD b (List.mem_append_right _ hb))]
    · rw [List.flatMap_append]
      exact (by simpa [GL.all] using tk3.upd)
    · rw [List.flatMap_append] at ha
      rcases List.mem_append.mp ha with z | z
      · exact hf a z
      · simp [GL.all] at z
        rcases z with rfl | rfl | rfl | rfl
        · exact sm.free hdx
        · exact sm.free hx
        · exact sm.free he
        · exact sm.free hq
    · exact fun b o hb => by
        rw [upd_ne (ne_of_none hb hD)]
        exact k13 b o (sm b o hb)
  · rintro H1 ⟨gs, hl, hL, hg, tk, hf, sm⟩
    exact hd H1 gs hl hL hg tk hf sm
end
end Rb
namespace Rb
open PySem PySem.Spec PyProof.Rows L2
def zero4 : List V := [.int 0, .int 0, .int 0, .int 0]
section
variable {P : Program} {w : World} {K : PySem.W.Frag} {mg : Str → Option Value} {base : Heap}
theorem blocks_comp {H : Hp} {D : Addr} {S : List Addr} {σ : L2.St} {Qd : Hp → Prop} (hw2 : ∀ x, wipe ((wipe σ [1]).set 1 x) [1] = wipe σ [1]) (t0 : Trk H S) (hD : H D = none)
    (hd : ∀ (H1 : Hp) (bs : List (Addr × Addr)), bs.length = 2 → H1 D = some (.lst (bs.map fun x => V.ref x.1)) → (∀ x ∈ bs, H1 x.1 = some (.lst (List.replicate 8 (.ref x.2))) ∧ H1 x.2 = some (.tup zero4)) →
      Trk H1 (S ++ [D] ++ bs.map (·.1)) → (∀ x ∈ bs, H x.1 = none) → Same H H1 → Qd H1) :
    ∃ W : Nat → Nat → Hp → Prop, (∃ n, W 0 n (upd H D (.lst []))) ∧ ∀ i n H', W i n H' →
      ((Itr 0 2).stop i H' ∧ Qd H') ∨ ((Itr 0 2).go i H' ∧ ∃ Nx : Hp → Prop, (∀ H2, Nx H2 → ∃ n', n' < n ∧ W (i + 1) n' H2) ∧ ∀ x H2, (Itr 0 2).yld i H' x H2 → gName 1 x (wipe σ [1]) H2 fun σ2 H3 => wipe σ2 [1] = wipe σ [1] ∧ tYes σ2 H3 fun b H4 =>
        if b = true then tOp rRep (tLst (tCons (tOp (rRepT K) (tTup (tCons (tC (.int 0)) tNil)) (tC (.int 4))) tNil)) (tC (.int 8)) σ2 H4 fun y H5 => ∃ acc, H5 D = some (.lst acc) ∧ acc.length < sizeLine ∧ Nx (upd H5 D (.lst (acc ++ [y]))) else Nx H4) := by
  refine lc_range (n := 2) (fun i H1 => ∃ bs : List (Addr × Addr), bs.length = i ∧ H1 D = some (.lst (bs.map fun x => V.ref x.1)) ∧ (∀ x ∈ bs, H1 x.1 = some (.lst (List.replicate 8 (.ref x.2))) ∧ H1 x.2 = some (.tup zero4)) ∧
    Trk H1 (S ++ [D] ++ bs.map (·.1)) ∧ (∀ x ∈ bs, H x.1 = none) ∧ Same H H1) ?_ ?_ ?_
  · exact ⟨[], rfl, upd_same, fun L hL => (nomatch hL), by simpa using t0.new hD, fun a ha => (nomatch ha), Same.new (Same.refl H) hD⟩
  · rintro i H1 hi ⟨bs, hl, hL, hb, tk, hf, sm⟩
    refine ⟨hw2 _, ?_⟩
    refine ⟨by decide, fun p1 h1 => ⟨p1, 4, [.int 0], rfl, rfl, SqT.of upd_same, by simp, by decide, by decide, by decide, fun p2 h2 => ⟨(by show 1 ≤ sizeLine; decide), fun p3 h3 => ⟨p3, 8, [.ref p2], rfl, rfl, upd_same, by decide, by decide, (by show 1 * 8 ≤ sizeLine; decide), fun p4 h4 => ?_⟩⟩⟩⟩
    have s1 : Same H1 (upd H1 p1 (.tup [.int 0])) := Same.new (Same.refl H1) h1
    have s2 := Same.new (o := HO.tup (List.replicate (4 : Int).toNat [V.int 0]).flatten) s1 (s1.free h2)
    have s3 := Same.new (o := HO.lst [.ref p2]) s2 (s2.free h3)
    have s4 := Same.new (o := HO.lst (List.replicate (8 : Int).toNat [V.ref p2]).flatten) s3 (s3.free h4)
    have hD4 := s4 _ _ hL
    have f4 : H1 p4 = none := s3.free h4
    have tk4 := (tk.same s3).new (o := HO.lst (List.replicate (8 : Int).toNat [V.ref p2]).flatten) h4
    have n4D : p4 ≠ D := fun z => tk4.nd |> fun n => by
      rw [List.nodup_append] at n
      exact n.2.2 D (by simp) p4 (by simp) z.symm
    have e2 : p2 ≠ D := fun z => by
      rw [z, s1 _ _ hL] at h2
      cases h2
    obtain ⟨n43, h4'⟩ := free_upd h4
    obtain ⟨n42, _⟩ := free_upd h4'
    refine ⟨_, hD4, ?_, bs ++ [(p4, p2)], by simp [hl], ?_, fun x hx => ?_, ?_, fun x hx => ?_, ?_⟩
    · rw [List.length_map, hl]
      exact Nat.lt_trans hi (by decide)
    · rw [upd_same, List.map_append]
      rfl
    · rcases List.mem_append.mp hx with z | z
      · obtain ⟨y1, y2⟩ := hb x z
        have n1 : x.1 ≠ D := fun q => by
          have n := tk.nd
          rw [List.nodup_append] at n
          exact n.2.2 D (by simp) x.1 (List.mem_map.mpr ⟨x, z, rfl⟩) q.symm
        have n2 : x.2 ≠ D := ne_of y2 hL (by intro q; cases q)
        rw [upd_ne n1, upd_ne n2]
        exact ⟨s4 _ _ y1, s4 _ _ y2⟩
      · rw [List.mem_singleton] at z
        subst z
        refine ⟨?_, ?_⟩
        · show upd _ D _ p4 = _
          rw [upd_ne n4D, upd_same]
          rfl
        · show upd _ D _ p2 = _
          rw [upd_ne e2, upd_ne n42.symm]
          have n32 : p2 ≠ p3 := fun z => by
            rw [← z, upd_same] at h3
            cases h3
          rw [upd_ne n32, upd_same]
          rfl
    · have := tk4.upd (p := D) (o := HO.lst (bs.map (fun x => V.ref x.1) ++ [V.ref p4]))
      simpa using this
    · rcases List.mem_append.mp hx with z | z
      · exact hf x z
      · rw [List.mem_singleton] at z
        subst z
        exact sm.free f4
    · exact fun b o hb' => by
        rw [upd_ne (ne_of_none hb' hD)]
        exact s4 b o (sm b o hb')
  · rintro H1 ⟨bs, hl, hL, hb, tk, hf, sm⟩
    exact hd H1 bs hl hL hb tk hf sm
end
end Rb
namespace Rb
open PySem PySem.Spec PyProof.Rows L2
section
variable {P : Program} {w : World} {K : PySem.W.Frag} {mg : Str → Option Value} {base : Heap}
theorem len2 {α : Type} {l : List α} (h : l.length = 2) : ∃ a b, l = [a, b] := by
  match l, h with
  | [a, b], _ => exact ⟨a, b, rfl⟩
theorem ok_Memory_init (T : Top K mg) : FnC P w K mg base CX0 6 (He.ma K (He.ga K "Memory") "__init__") (spMemI (CM K) (CG K)) := by
  have G_Guard___init__ := ok_Guard_init (P := P) (w := w) (base := base) T
  have G_first_cells := ok_first_cells (P := P) (w := w) (base := base) T
  refine fnc0 T.d_Memory___init__ sc_Memory___init__ (fun _ _ _ _ _ _ us hl => match us, hl with | [_], _ => rfl) (fun vs H Q E h => ?_) (fun cdv A outer s H vs Q E hr h => ?_)
  · obtain ⟨m, d, rfl, _⟩ := h
    rfl
  · obtain ⟨m, d, rfl, hm, hdd, nmd, k⟩ := h
    refine ⟨_, (pss_cons (ps_fld (pv 0) pe_int rfl)
    (pss_cons (ps_fld (pv 0) (pe_lc (own := [("device", 1)]) (g := gName 1) (tt := tYes) rfl sc_Memory___init__.nd (pi_range1 (by rfl) T.b_range (pa_cons (pe_gc (by rfl) T.c_DEVICES) pa_nil)) (blkOk_by (N := ["self", "device"]) (sc := defScope s_Memory___init__) (by decide +kernel)) (fun _ _ _ _ _ => (pg_name (i := 1) sc_Memory___init__.nd rfl (Or.inl rfl))) (fun _ _ _ _ _ => pts_nil) (fun _ _ _ _ _ => (pe_k0 G_Guard___init__ hr (by decide) (by rfl) T.g_Guard T.mk_Guard pass0))) rfl)
    (pss_cons (ps_fld (pv 0) (pe_f0 G_first_cells hr (by decide) (by rfl) T.g_first_cells pass0) rfl)
    (pss_cons (ps_fld (pv 0) (pe_lc (own := [("device", 1)]) (g := gName 1) (tt := tYes) rfl sc_Memory___init__.nd (pi_range1 (by rfl) T.b_range (pa_cons (pe_gc (by rfl) T.c_DEVICES) pa_nil)) (blkOk_by (N := ["self", "device"]) (sc := defScope s_Memory___init__) (by decide +kernel)) (fun _ _ _ _ _ => (pg_name (i := 1) sc_Memory___init__.nd rfl (Or.inl rfl))) (fun _ _ _ _ _ => pts_nil) (fun _ _ _ _ _ => (pe_op op_rep (pe_lst (pa_cons (pe_op (r := rRepT K) op_repT (pe_tup (pa_cons pe_int pa_nil)) (pe_gc (by rfl) T.c_CELLS)) pa_nil)) (pe_gc (by rfl) T.c_BLOCKS)))) rfl)
    (pss_cons (ps_fld (pv 0) (pe_op op_rep (pe_lst (pa_cons (pe_tup pa_nil) pa_nil)) (pe_gc (by rfl) T.c_DEVICES)) rfl)
    (pss_one (ps_fld (pv 0) (pe_lst pa_nil) rfl))))))), ?_⟩
    -- self.count = 0
    refine ⟨_, rfl, m, CM K, d, List.zip [] [], rfl, hm, T.cl_Memory, T.na_Memory_count, (by decide), ?_⟩
    rw [zx (by decide +kernel) rfl]
    generalize eH1 : upd H m (.ins (CM K) d (List.zip ([] ++ [("count" : Str)]) ([] ++ [V.int 0]))) = H1
    have m1 : H1 m = some (.ins (CM K) d (List.zip ["count"] [.int 0])) := by
      rw [← eH1, upd_same]
      rfl
    have k1 : ∀ b o, H b = some o → b ≠ m → H1 b = some o := fun b o hb n => by
      rw [← eH1, upd_ne n]
      exact hb
    have d1 : H1 d = some (.own m) := k1 _ _ hdd nmd.symm
    have t1 : Trk H1 [m, d] := ⟨by simp [nmd], fun a ha => by
      simp at ha
      rcases ha with rfl | rfl
      · exact some_ne m1
      · exact some_ne d1⟩
    have f1 : ∀ a, H1 a = none → H a = none := fun a ha => by
      rw [← eH1] at ha
      exact (free_upd ha).2
    -- self.guards = [Guard() for device in range(DEVICES)]
    refine ⟨2, rfl, by decide, by decide, fun aG hG => ?_⟩
    refine guards_comp (m := m) (d := d) rfl (fun _ => rfl) t1 hG ?_
    rintro H2 gs hgl hGL hgs t2 hf2 s2
    obtain ⟨L0, L1, rfl⟩ := len2 hgl
    have m2 := s2 _ _ m1
    refine ⟨_, rfl, m, CM K, d, List.zip ["count"] [.int 0], rfl, m2, T.cl_Memory, T.na_Memory_guards, (by show 1 < 1000; decide), ?_⟩
    rw [zx (by decide +kernel) rfl]
    -- self._cells = first_cells()
    refine ⟨rfl, fun aC H3 hC0 s3 hC => ?_⟩
    obtain ⟨nCm, hC0⟩ := free_upd hC0
    have m3 : H3 m = some (.ins (CM K) d (List.zip ["count", "guards"] [.int 0, .ref aG])) := s3 _ _ upd_same
    refine ⟨_, rfl, m, CM K, d, _, rfl, m3, T.cl_Memory, T.na_Memory__cells, (by show 2 < 1000; decide), ?_⟩
    rw [zx (by decide +kernel) rfl]
    generalize eH4 : upd H3 m (.ins (CM K) d (List.zip ((["count", "guards"] : List Str) ++ [("_cells" : Str)]) ([.int 0, .ref aG] ++ [V.ref aC]))) = H4
    have m4 : H4 m = some (.ins (CM K) d (List.zip ["count", "guards", "_cells"] [.int 0, .ref aG, .ref aC])) := by
      rw [← eH4, upd_same]
      rfl
    have k24 : ∀ b o, H2 b = some o → b ≠ m → H4 b = some o := fun b o hb n => by
      rw [← eH4, upd_ne n]
      refine s3 b o ?_
      rw [upd_ne n]
      exact hb
    have k34 : ∀ b o, H3 b = some o → b ≠ m → H4 b = some o := fun b o hb n => by
      rw [← eH4, upd_ne n]
      exact hb
    have tr4 : ∀ a, H2 a ≠ none → H4 a ≠ none := fun a ha => by
      by_cases e : a = m
      · rw [e]
        exact some_ne m4
      · cases q : H2 a with
        | none => exact absurd q ha
        | some o => exact some_ne (k24 a o q e)
    have t4 : Trk H4 ([m, d, aG] ++ [L0, L1].flatMap GL.all ++ [aC]) := t2.add hC0 (some_ne (k34 _ _ hC nCm)) fun a _ ha => tr4 a ha
    have f4 : ∀ a, H4 a = none → H2 a = none := fun a ha => by
      cases q : H2 a with
      | none => rfl
      | some o => exact absurd ha (tr4 a (some_ne q))
    -- self._blocks = [..]
    refine ⟨2, rfl, by decide, by decide, fun aB hB => ?_⟩
    refine blocks_comp (fun _ => rfl) t4 hB ?_
    rintro H5 bs hbl hBL hbs t5 hf5 s5
    obtain ⟨⟨b0, z0⟩, ⟨b1, z1⟩, rfl⟩ := len2 hbl
    have m5 := s5 _ _ m4
    refine ⟨_, rfl, m, CM K, d, _, rfl, m5, T.cl_Memory, T.na_Memory__blocks, (by show 3 < 1000; decide), ?_⟩
    rw [zx (by decide +kernel) rfl]
    generalize eH6 : upd H5 m (.ins (CM K) d (List.zip ((["count", "guards", "_cells"] : List Str) ++ [("_blocks" : Str)]) ([.int 0, .ref aG, .ref aC] ++ [V.ref aB]))) = H6
    have m6 : H6 m = some (.ins (CM K) d (List.zip ["count", "guards", "_cells", "_blocks"] [.int 0, .ref aG, .ref aC, .ref aB])) := by
      rw [← eH6, upd_same]
      rfl
    have k56 : ∀ b o, H5 b = some o → b ≠ m → H6 b = some o := fun b o hb n => by
      rw [← eH6, upd_ne n]
      exact hb
    have tr6 : ∀ a, H5 a ≠ none → H6 a ≠ none := fun a ha => by
      rw [← eH6]
      exact dom_upd ha
    -- self._journals = [()] * DEVICES
    refine ⟨by decide, fun t ht => ⟨(by show 1 ≤ sizeLine; decide), fun l hl => ⟨l, 2, [.ref t], rfl, rfl, upd_same, by decide, by decide, (by show 1 * 2 ≤ sizeLine; decide), fun aJ hJ => ?_⟩⟩⟩
    obtain ⟨nJl, hJ'⟩ := free_upd hJ
    obtain ⟨nJt, hJ6⟩ := free_upd hJ'
    obtain ⟨nlt, hl6⟩ := free_upd hl
    have s67 : Same H6 (upd (upd (upd H6 t (.tup [])) l (.lst [.ref t])) aJ (.lst (List.replicate (2 : Int).toNat [V.ref t]).flatten)) :=
      Same.new (Same.new (Same.new (Same.refl H6) ht) hl6) hJ6
    refine ⟨_, rfl, m, CM K, d, _, rfl, s67 _ _ m6, T.cl_Memory, T.na_Memory__journals, (by show 4 < 1000; decide), ?_⟩
    rw [zx (by decide +kernel) rfl]
    have eJ : upd (upd (upd H6 t (.tup [])) l (.lst [.ref t])) aJ (.lst (List.replicate (2 : Int).toNat [V.ref t]).flatten) aJ = some (.lst [.ref t, .ref t]) := upd_same
    have eT : upd (upd (upd H6 t (.tup [])) l (.lst [.ref t])) aJ (.lst (List.replicate (2 : Int).toNat [V.ref t]).flatten) t = some (.tup []) := by
      rw [upd_ne nJt.symm, upd_ne nlt.symm, upd_same]
    generalize upd (upd (upd H6 t (.tup [])) l (.lst [.ref t])) aJ (.lst (List.replicate (2 : Int).toNat [V.ref t]).flatten) = H7 at s67 eJ eT
    have nJm : aJ ≠ m := fun z => by
      rw [z, m6] at hJ6
      cases hJ6
    generalize eH8 : upd H7 m (.ins (CM K) d (List.zip ((["count", "guards", "_cells", "_blocks"] : List Str) ++ [("_journals" : Str)]) ([.int 0, .ref aG, .ref aC, .ref aB] ++ [V.ref aJ]))) = H8
    have m8 : H8 m = some (.ins (CM K) d (List.zip ["count", "guards", "_cells", "_blocks", "_journals"] [.int 0, .ref aG, .ref aC, .ref aB, .ref aJ])) := by
      rw [← eH8, upd_same]
      rfl
    have k78 : ∀ b o, H7 b = some o → b ≠ m → H8 b = some o := fun b o hb n => by
      rw [← eH8, upd_ne n]
      exact hb
    -- self._log = []
    refine ⟨by decide, fun aL hL => ?_⟩
    have s8 : Same H8 (upd H8 aL (.lst [])) := Same.new (Same.refl H8) hL
    refine ⟨_, rfl, m, CM K, d, _, rfl, s8 _ _ m8, T.cl_Memory, T.na_Memory__log, (by show 5 < 1000; decide), ?_⟩
    rw [zx (by decide +kernel) rfl]
    have nLm : aL ≠ m := fun z => by
      rw [z, m8] at hL
      cases hL
    -- what stands behind
    have k58 : ∀ b o, H5 b = some o → b ≠ m → H8 b = some o := fun b o hb n => k78 b o (s67 b o (k56 b o hb n)) n
    have k28 : ∀ b o, H2 b = some o → b ≠ m → H8 b = some o := fun b o hb n => k58 b o (s5 b o (k24 b o hb n)) n
    have tr8 : ∀ a, H5 a ≠ none → H8 a ≠ none := fun a ha => by
      by_cases e : a = m
      · rw [e]
        exact some_ne m8
      · cases q : H5 a with
        | none => exact absurd q ha
        | some o => exact some_ne (k58 a o q e)
    have f5 : ∀ a, H5 a = none → H2 a = none := fun a ha => f4 a (s5.free ha)
    have f6 : ∀ a, H6 a = none → H5 a = none := fun a ha => by
      rw [← eH6] at ha
      exact (free_upd ha).2
    have f8 : ∀ a, H8 a = none → H5 a = none := fun a ha => by
      cases q : H5 a with
      | none => rfl
      | some o => exact absurd ha (tr8 a (some_ne q))
    have t8 := (t5.adds (ps := [aJ]) (by simp) (fun p hp => by
      rw [List.mem_singleton.mp hp]
      exact f6 aJ hJ6) (fun p hp => by
      rw [List.mem_singleton.mp hp]
      exact some_ne (k78 _ _ eJ nJm)) fun a _ ha => tr8 a ha)
    have t9 := t8.new (o := HO.lst []) hL
    have fin : ∀ b o, H8 b = some o → b ≠ m → upd (upd H8 aL (.lst [])) m (.ins (CM K) d (List.zip ((["count", "guards", "_cells", "_blocks", "_journals"] : List Str) ++ [("_log" : Str)]) ([.int 0, .ref aG, .ref aC, .ref aB, .ref aJ] ++ [V.ref aL]))) b = some o := fun b o hb n => by
      rw [upd_ne n]
      exact s8 b o hb
    refine k ⟨m, d, aG, aC, aB, fun i => if i = 0 then b0 else b1, aJ, aL, fun i => if i = 0 then L0 else L1⟩ _ (fun i => if i = 0 then z0 else z1) t rfl rfl ?_ (fun a ha => ?_) (fun i hi => ?_) ?_ (fun b o hb nb => ?_)
    · have nm : ∀ a ∈ [d, aG] ++ [L0, L1].flatMap GL.all ++ [aC, aB, b0, b1, aJ, aL], a ≠ m := fun a ha z => by
        have n := t9.nd
        simp only [List.cons_append, List.nil_append, List.append_assoc, List.flatMap_cons, List.flatMap_nil, List.map_cons, List.map_nil, List.append_nil] at n ha
        rw [List.nodup_cons] at n
        subst z
        exact n.1 (by simpa using ha)
      have gk : ∀ L ∈ [L0, L1], GuardAt (CG K) L (upd (upd H8 aL (.lst [])) m (.ins (CM K) d (List.zip ((["count", "guards", "_cells", "_blocks", "_journals"] : List Str) ++ [("_log" : Str)]) ([.int 0, .ref aG, .ref aC, .ref aB, .ref aJ] ++ [V.ref aL])))) G0 := fun L hL' => by
        have g := hgs L hL'
        have nn : ∀ b ∈ L.all, b ≠ m := fun b hb => nm b (List.mem_append_left _ (List.mem_append_right _ (List.mem_flatMap.mpr ⟨L, hL', hb⟩)))
        exact ⟨fin _ _ (k28 _ _ g.og (nn _ (by simp [GL.all]))) (nn _ (by simp [GL.all])), fin _ _ (k28 _ _ g.od (nn _ (by simp [GL.all]))) (nn _ (by simp [GL.all])),
          fin _ _ (k28 _ _ g.oe (nn _ (by simp [GL.all]))) (nn _ (by simp [GL.all])), fin _ _ (k28 _ _ g.oq (nn _ (by simp [GL.all]))) (nn _ (by simp [GL.all]))⟩
      have ndm : d ≠ m := nmd.symm
      have nGm : aG ≠ m := nm _ (by simp)
      have nBm : aB ≠ m := nm _ (by simp)
      have n0m : b0 ≠ m := nm _ (by simp)
      have n1m : b1 ≠ m := nm _ (by simp)
      refine ⟨upd_same, fin _ _ (k28 _ _ (s2 _ _ d1) ndm) ndm, fin _ _ (k28 _ _ hGL nGm) nGm, fin _ _ (k58 _ _ (s5 _ _ (k34 _ _ hC nCm)) nCm) nCm, fin _ _ (k58 _ _ hBL nBm) nBm, fun i hi => ?_,
        fin _ _ (k78 _ _ eJ nJm) nJm, ?_, fun i hi => ?_, ?_⟩
      · rcases lt2 hi with rfl | rfl
        · exact fin _ _ (k58 _ _ (hbs (b0, z0) (by simp)).1 n0m) n0m
        · exact fin _ _ (k58 _ _ (hbs (b1, z1) (by simp)).1 n1m) n1m
      · show upd _ m _ aL = _
        rw [upd_ne nLm, upd_same]
        rfl
      · rcases lt2 hi with rfl | rfl
        · exact gk L0 (by simp)
        · exact gk L1 (by simp)
      · have n := t9.nd
        simp only [ML.all, List.cons_append, List.nil_append, List.append_assoc, List.flatMap_cons, List.flatMap_nil, List.map_cons, List.map_nil, List.append_nil] at n ⊢
        exact n
    · simp only [ML.all, List.cons_append, List.nil_append, List.append_assoc, List.mem_cons, List.mem_append, List.not_mem_nil, or_false] at ha
      have h0 : ∀ a ∈ [L0, L1].flatMap GL.all, H a = none := fun a ha => f1 a (hf2 a ha)
      rcases ha with e | e | e | ha | ha | e | e | e | e | e | e
      · exact .inl e
      · exact .inr (.inl e)
      · exact .inr (.inr (by rw [e]; exact f1 _ hG))
      · exact .inr (.inr (h0 a (List.mem_flatMap.mpr ⟨L0, by simp, ha⟩)))
      · exact .inr (.inr (h0 a (List.mem_flatMap.mpr ⟨L1, by simp, ha⟩)))
      · exact .inr (.inr (by rw [e]; exact f1 _ (s2.free hC0)))
      · exact .inr (.inr (by rw [e]; exact f1 _ (s2.free (f4 _ hB))))
      · have e' : a = b0 := e
        exact .inr (.inr (by rw [e']; exact f1 _ (s2.free (f4 _ (hf5 (b0, z0) (by simp))))))
      · have e' : a = b1 := e
        exact .inr (.inr (by rw [e']; exact f1 _ (s2.free (f4 _ (hf5 (b1, z1) (by simp))))))
      · exact .inr (.inr (by rw [e]; exact f1 _ (s2.free (f5 _ (f6 _ hJ6)))))
      · exact .inr (.inr (by rw [e]; exact f1 _ (s2.free (f5 _ (f8 _ hL)))))
    · have nz : ∀ z, H5 z = some (.tup zero4) → z ≠ m := fun z hz => ne_of hz m5 (by intro q; cases q)
      rcases lt2 hi with rfl | rfl
      · have y := (hbs (b0, z0) (by simp)).2
        exact fin _ _ (k58 _ _ y (nz _ y)) (nz _ y)
      · have y := (hbs (b1, z1) (by simp)).2
        exact fin _ _ (k58 _ _ y (nz _ y)) (nz _ y)
    · have ntm : t ≠ m := ne_of eT (s67 _ _ m6) (by intro q; cases q)
      exact fin _ _ (k78 _ _ eT ntm) ntm
    · exact fin _ _ (k28 _ _ (s2 _ _ (k1 b o hb nb)) nb) nb
end
end Rb
namespace Rb
open PySem PySem.Spec PyProof.Rows L2
theorem lk_e {e q : Addr} {n : Int} : (gFld e q n).lookup ("_entries" : Str) = some (.ref e) := zl (i := 0) (by decide +kernel) rfl
theorem lk_q {e q : Addr} {n : Int} : (gFld e q n).lookup ("_queue" : Str) = some (.ref q) := zl (i := 1) (by decide +kernel) rfl
theorem lk_t {e q : Addr} {n : Int} : (gFld e q n).lookup ("_tickets" : Str) = some (.int n) := zl (i := 2) (by decide +kernel) rfl
theorem lm_c {n : Int} {aG aC aB aJ aL : Addr} : (mFld n aG aC aB aJ aL).lookup ("count" : Str) = some (.int n) := zl (i := 0) (by decide +kernel) rfl
theorem lm_g {n : Int} {aG aC aB aJ aL : Addr} : (mFld n aG aC aB aJ aL).lookup ("guards" : Str) = some (.ref aG) := zl (i := 1) (by decide +kernel) rfl
theorem lm_C {n : Int} {aG aC aB aJ aL : Addr} : (mFld n aG aC aB aJ aL).lookup ("_cells" : Str) = some (.ref aC) := zl (i := 2) (by decide +kernel) rfl
theorem lm_B {n : Int} {aG aC aB aJ aL : Addr} : (mFld n aG aC aB aJ aL).lookup ("_blocks" : Str) = some (.ref aB) := zl (i := 3) (by decide +kernel) rfl
theorem lm_J {n : Int} {aG aC aB aJ aL : Addr} : (mFld n aG aC aB aJ aL).lookup ("_journals" : Str) = some (.ref aJ) := zl (i := 4) (by decide +kernel) rfl
theorem lm_L {n : Int} {aG aC aB aJ aL : Addr} : (mFld n aG aC aB aJ aL).lookup ("_log" : Str) = some (.ref aL) := zl (i := 5) (by decide +kernel) rfl
/-- the entries' tuples -/
def EntT (kvs : List (Key × V)) (H : Hp) (t : Addr) (y : Int) : Prop := ∃ v, valV kvs (Sum.inl y : Key) = some v ∧ H t = some (.tup [.int y, v])
def spEntries (C : Addr) : Sp := fun vs H Q _ => ∃ (L : GL) (G : GS) (ks : List Int), vs = [.ref L.g] ∧ GuardAt C L H G ∧ G.ents.map (·.1) = ks.map Sum.inl ∧ ks.length < 64 ∧
  ∀ (p : Addr) (H' : Hp) (ys : List Int) (ts : List Addr), ys.Perm ks → ys.Pairwise (· ≤ ·) → H p = none → Same H H' → H' p = some (.lst (ts.map V.ref)) → Paired (EntT G.ents H') ts ys → Q (.ref p) H'
def spQueue (C : Addr) : Sp := fun vs H Q _ => ∃ (L : GL) (G : GS), vs = [.ref L.g] ∧ GuardAt C L H G ∧ ∀ (p : Addr), H p = none → Q (.ref p) (upd H p (.lst G.que))
section
variable {P : Program} {w : World} {K : PySem.W.Frag} {mg : Str → Option Value} {base : Heap}
theorem ok_Guard_entries (T : Top K mg) : FnC P w K mg base CX0 1 (He.ma K (He.ga K "Guard") "entries") (spEntries (CG K)) := by
  refine fnc0 T.d_Guard_entries sc_Guard_entries (fun _ _ _ _ _ _ us hl => match us, hl with | [_], _ => rfl) (fun vs H Q E h => ?_) (fun cdv A outer s H vs Q E hr h => ?_)
  · obtain ⟨L, G, ks, rfl, _⟩ := h
    rfl
  · obtain ⟨L, G, ks, rfl, hG, hk, hl, k⟩ := h
    have hu := hu_of hr
    refine ⟨_, (pss_one (ps_ret (pe_lc (own := [("page", 1)]) (g := gName 1) (tt := tYes) rfl sc_Guard_entries.nd (pi_list (pe_callB (call_sortedDI rfl) (by rfl) T.b_sorted (by decide +kernel) (pa_cons (pe_fld (pv 0) rfl) pa_nil))) (blkOk_by (N := ["self", "page"]) (sc := defScope s_Guard_entries) (by decide +kernel)) (fun _ _ _ _ _ => (pg_name (i := 1) sc_Guard_entries.nd rfl (Or.inl rfl))) (fun _ _ _ _ _ => pts_nil) (fun _ _ _ _ _ => (pe_tup (pa_cons (pv 1) (pa_cons (pe_dget hu (pe_fldK (K := K) rfl (pv 0) rfl) (pv 1) (fun _ _ => rfl)) pa_nil))))))), ?_⟩
    refine ⟨_, rfl, L.g, CG K, L.d, _, _, rfl, hG.og, T.cl_Guard, T.na_Guard__entries, lk_e, L.e, G.ents, ks, rfl, .inl hG.oe, hk, hl, fun ys p0 hp hs h0 => ?_⟩
    refine ⟨p0, rfl, ⟨_, SqL.of upd_same⟩, fun D hD => ?_⟩
    obtain ⟨nDp, hD0⟩ := free_upd hD
    have s0 : Same H (upd H p0 (.lst (ys.map V.int))) := Same.new (Same.refl H) h0
    refine lc_list (K := K) (a := p0) (xs := ys.map V.int) (fun i H1 => ∃ ts : List Addr, H1 D = some (.lst (ts.map V.ref)) ∧ Paired (EntT G.ents H1) ts (ys.take i) ∧ Same (upd H p0 (.lst (ys.map V.int))) H1) ?_ ?_ ?_ ?_
    · exact ⟨[], upd_same, .nil, Same.new (Same.refl _) hD⟩
    · rintro i H1 hi ⟨ts, _, _, s1⟩
      exact SqL.of (s1 _ _ upd_same)
    · rintro i x H1 hx ⟨ts, hL, hp1, s1⟩
      obtain ⟨y, hy, rfl⟩ : ∃ y, ys[i]? = some y ∧ x = V.int y := by
        rw [List.getElem?_map] at hx
        cases e : ys[i]? with
        | none =>
          rw [e] at hx
          cases hx
        | some y =>
          rw [e] at hx
          exact ⟨y, rfl, (Option.some.inj hx).symm⟩
      refine ⟨rfl, ?_⟩
      have hin : y ∈ ks := hp.mem_iff.mp (List.mem_of_getElem? hy)
      obtain ⟨v, hv⟩ : ∃ v, valV G.ents (Sum.inl y : Key) = some v := by
        have hm : (Sum.inl y : Key) ∈ G.ents.map (·.1) := by
          rw [hk]
          exact List.mem_map.mpr ⟨y, hin, rfl⟩
        cases e : valV G.ents (Sum.inl y : Key) with
        | some v => exact ⟨v, rfl⟩
        | none => exact absurd hm (valV_not e)
      have g1 : H1 L.g = _ := s1 _ _ (s0 _ _ hG.og)
      have e1 : H1 L.e = _ := s1 _ _ (s0 _ _ hG.oe)
      have dg : DGet H1 L.e (V.int y) (some v) := by
        rw [← hv]
        exact DGet.k (k := Sum.inl y) e1
      refine ⟨_, rfl, _, rfl, L.g, CG K, L.d, _, _, rfl, g1, T.cl_Guard, T.na_Guard__entries, lk_e, _, rfl, L.e, v, rfl, dg, (by show 2 ≤ sizeLine; decide), fun t ht => ?_⟩
      have s2 : Same H1 (upd H1 t (.tup [.int y, v])) := Same.new (Same.refl H1) ht
      have hD2 := s2 _ _ hL
      have ntD : t ≠ D := fun z => by
        rw [z, hL] at ht
        cases ht
      have s3 : Same (upd H p0 (.lst (ys.map V.int))) (upd (upd H1 t (.tup [.int y, v])) D (.lst (ts.map V.ref ++ [V.ref t]))) := fun b o hb => by
        rw [upd_ne (ne_of_none hb hD)]
        exact s2 b o (s1 b o hb)
      refine ⟨_, hD2, ?_, ts ++ [t], ?_, ?_, s3⟩
      · rw [List.length_map]
        have e : ts.length = (ys.take i).length := Paired.length hp1
        rw [e]
        have : (ys.take i).length ≤ ks.length := by
          rw [List.length_take, ← hp.length_eq]
          omega
        exact Nat.lt_of_le_of_lt (Nat.le_trans this (Nat.le_of_lt hl)) (by decide)
      · rw [upd_same, List.map_append]
        rfl
      · have e : ys.take (i + 1) = ys.take i ++ [y] := by
          rw [List.take_succ, hy]
          rfl
        rw [e]
        refine Paired.snoc (L2.Paired.mapP hp1 ?_) ?_
        · rintro a b ⟨v', q1, q2⟩
          refine ⟨v', q1, ?_⟩
          have na : a ≠ D := ne_of q2 hL (by intro z; cases z)
          rw [upd_ne na]
          exact s2 _ _ q2
        · exact ⟨v, hv, by rw [upd_ne ntD, upd_same]⟩
    · rintro H1 ⟨ts, hL, hp1, s1⟩
      rw [List.length_map, List.take_length] at hp1
      exact k D H1 ys ts hp hs hD0 (fun b o hb => s1 b o (s0 b o hb)) hL hp1
theorem ok_Guard_queue (T : Top K mg) : FnC P w K mg base CX0 1 (He.ma K (He.ga K "Guard") "queue") (spQueue (CG K)) := by
  refine fnc0 T.d_Guard_queue sc_Guard_queue (fun _ _ _ _ _ _ us hl => match us, hl with | [_], _ => rfl) (fun vs H Q E h => ?_) (fun cdv A outer s H vs Q E hr h => ?_)
  · obtain ⟨L, G, rfl, _⟩ := h
    rfl
  · obtain ⟨L, G, rfl, hG, k⟩ := h
    refine ⟨_, (pss_one (ps_ret (pe_callTy call_list_of (by rfl) T.b_list (by decide +kernel) (pa_cons (pe_fld (pv 0) rfl) pa_nil)))), ?_⟩
    exact ⟨_, rfl, L.g, CG K, L.d, _, _, rfl, hG.og, T.cl_Guard, T.na_Guard__queue, lk_q, L.q, G.que, rfl, .inl (SqL.of hG.oq), k⟩
end
end Rb
namespace Rb
open PySem PySem.Spec PyProof.Rows L2
abbrev NV (K : PySem.W.Frag) : Value := .ref (He.ga K "NotValid")
/-- a number within its bounds is an index -/
theorem isNum_at {v : V} {n : Nat} (h : isNum v (n : Int) = true) : ∃ j : Nat, v = .int (j : Int) ∧ j < n := by
  cases v with
  | int i =>
    have h' : (decide (0 ≤ i) && decide (i < (n : Int))) = true := h
    obtain ⟨a, b⟩ := and2 h'
    have a := of_decide_eq_true a
    have b := of_decide_eq_true b
    exact ⟨i.toNat, congrArg V.int (by omega), by omega⟩
  | _ => cases h
theorem isNum_nat {j n : Nat} (h : j < n) : isNum (.int (j : Int)) (n : Int) = true := by
  show (decide ((0 : Int) ≤ j) && decide ((j : Int) < n)) = true
  rw [decide_eq_true (by omega : (0 : Int) ≤ j), decide_eq_true (by omega : (j : Int) < n)]
  rfl
theorem atI_n {α : Type} {xs : List α} {j : Nat} {x : α} (h : xs[j]? = some x) : atI xs (j : Int) = some x := by
  unfold atI ixN
  have hj : j < xs.length := (List.getElem?_eq_some_iff.mp h).1
  rw [if_pos (by omega), if_pos (by omega)]
  simpa using h
def spPeek (K : PySem.W.Frag) : Sp := fun vs H Q E => ∃ (L : ML) (M : MS) (v : V) (N : String), vs = [.ref L.m, v] ∧ MemAt (CM K) (CG K) L H M ∧ TyB K H v N ∧
  (∀ (j : Nat) (x : V), v = .int (j : Int) → M.cells[j]? = some x → Q x H) ∧ (isNum v (M.cells.length : Int) = false → E (NV K) none H)
def spJournal (K : PySem.W.Frag) : Sp := fun vs H Q E => ∃ (L : ML) (M : MS) (v : V) (N : String), vs = [.ref L.m, v] ∧ MemAt (CM K) (CG K) L H M ∧ TyB K H v N ∧ M.jo.length = 2 ∧
  (∀ (j : Nat) (x : V), v = .int (j : Int) → M.jo[j]? = some x → Q x H) ∧ (isNum v 2 = false → E (NV K) none H)
def spBlock (K : PySem.W.Frag) : Sp := fun vs H Q E => ∃ (L : ML) (M : MS) (v u : V) (N N' : String), vs = [.ref L.m, v, u] ∧ MemAt (CM K) (CG K) L H M ∧ TyB K H v N ∧ TyB K H u N' ∧ (∀ d, d < 2 → (M.bl d).length = 8) ∧
  (∀ (d j : Nat) (x : V), d < 2 → v = .int (d : Int) → u = .int (j : Int) → (M.bl d)[j]? = some x → Q x H) ∧ (isNum v 2 = false ∨ isNum u 8 = false → E (NV K) none H)
def spLog (K : PySem.W.Frag) : Sp := fun vs H Q _ => ∃ (L : ML) (M : MS), vs = [.ref L.m] ∧ MemAt (CM K) (CG K) L H M ∧ ∀ p, H p = none → Q (.ref p) (upd H p (.lst M.log))
section
variable {P : Program} {w : World} {K : PySem.W.Frag} {mg : Str → Option Value} {base : Heap}
theorem ok_peek (T : Top K mg) : FnC P w K mg base (L2.CX P w) 4 (He.ma K (He.ga K "Memory") "peek") (spPeek K) := by
  have G_is_number := ok_is_number (P := P) (w := w) (base := base) T
  have G_NotValid___init__ := ok_NotValid_init (P := P) (w := w) (base := base) T
  refine fnc T.d_Memory_peek sc_Memory_peek (fun _ _ _ _ _ _ us hl => match us, hl with | [_, _], _ => rfl) (fun vs H Q E h => ?_) (fun cdv A outer s H vs Q E hr h => ?_)
  · obtain ⟨L, M, v, N, rfl, _⟩ := h
    rfl
  · obtain ⟨L, M, v, N, rfl, hM, hN, k, ke⟩ := h
    refine ⟨_, (pss_cons (ps_if (pt_not (pt_val (pe_f G_is_number hr (by decide) (by rfl) T.g_is_number pass0 (pa_cons (pv 1) (pa_cons (pe_callB call_len_seq (by rfl) T.b_len PySem.boot_len (pa_cons (pe_fld (pv 0) rfl) pa_nil)) pa_nil))))) (pss_one (ps_raise rfl (takes_of rfl rfl rfl rfl) (pmk_bare T.ex_NotValid T.ini_NotValid T.ity_NotValid G_NotValid___init__ hr (by decide) pass0 (by rfl) T.g_NotValid))) pss_nil)
    (pss_one (ps_ret (pe_ix ix_list (pe_fld (pv 0) rfl) (pv 1) (fun _ _ => rfl))))), ?_⟩
    refine ⟨_, rfl, _, rfl, L.m, CM K, L.d, _, _, rfl, hM.om, T.cl_Memory, T.na_Memory__cells, lm_C, L.aC, M.cells, rfl, .inl (SqL.of hM.oc), v, N, _, rfl, hN, _, rfl, ?_⟩
    cases e : isNum v (M.cells.length : Int) with
    | false => exact ⟨fun a ha => ⟨a, _, rfl, T.ex_NotValid, upd_same, rfl, rfl⟩, ke e⟩
    | true =>
      obtain ⟨j, rfl, hj⟩ := isNum_at e
      have hx : M.cells[j]? = some M.cells[j] := List.getElem?_eq_getElem hj
      exact ⟨_, rfl, L.m, CM K, L.d, _, _, rfl, hM.om, T.cl_Memory, T.na_Memory__cells, lm_C, _, rfl, L.aC, M.cells, _, _, rfl, rfl, SqL.of hM.oc, atI_n hx, k j _ rfl hx⟩
theorem ok_journal (T : Top K mg) : FnC P w K mg base (L2.CX P w) 4 (He.ma K (He.ga K "Memory") "journal") (spJournal K) := by
  have G_is_number := ok_is_number (P := P) (w := w) (base := base) T
  have G_NotValid___init__ := ok_NotValid_init (P := P) (w := w) (base := base) T
  refine fnc T.d_Memory_journal sc_Memory_journal (fun _ _ _ _ _ _ us hl => match us, hl with | [_, _], _ => rfl) (fun vs H Q E h => ?_) (fun cdv A outer s H vs Q E hr h => ?_)
  · obtain ⟨L, M, v, N, rfl, _⟩ := h
    rfl
  · obtain ⟨L, M, v, N, rfl, hM, hN, hj2, k, ke⟩ := h
    refine ⟨_, (pss_cons (ps_if (pt_not (pt_val (pe_f G_is_number hr (by decide) (by rfl) T.g_is_number pass0 (pa_cons (pv 1) (pa_cons (pe_gc (by rfl) T.c_DEVICES) pa_nil))))) (pss_one (ps_raise rfl (takes_of rfl rfl rfl rfl) (pmk_bare T.ex_NotValid T.ini_NotValid T.ity_NotValid G_NotValid___init__ hr (by decide) pass0 (by rfl) T.g_NotValid))) pss_nil)
    (pss_one (ps_ret (pe_ix ix_list (pe_fld (pv 0) rfl) (pv 1) (fun _ _ => rfl))))), ?_⟩
    refine ⟨_, rfl, v, N, _, rfl, hN, _, rfl, ?_⟩
    cases e : isNum v 2 with
    | false => exact ⟨fun a ha => ⟨a, _, rfl, T.ex_NotValid, upd_same, rfl, rfl⟩, ke e⟩
    | true =>
      obtain ⟨j, rfl, hj⟩ := isNum_at (n := 2) e
      have hx : M.jo[j]? = some (M.jo[j]'(by omega)) := List.getElem?_eq_getElem (by omega)
      exact ⟨_, rfl, L.m, CM K, L.d, _, _, rfl, hM.om, T.cl_Memory, T.na_Memory__journals, lm_J, _, rfl, L.aJ, M.jo, _, _, rfl, rfl, SqL.of hM.oj, atI_n hx, k j _ rfl hx⟩
theorem ok_block (T : Top K mg) : FnC P w K mg base (L2.CX P w) 4 (He.ma K (He.ga K "Memory") "block") (spBlock K) := by
  have G_is_number := ok_is_number (P := P) (w := w) (base := base) T
  have G_NotValid___init__ := ok_NotValid_init (P := P) (w := w) (base := base) T
  refine fnc T.d_Memory_block sc_Memory_block (fun _ _ _ _ _ _ us hl => match us, hl with | [_, _, _], _ => rfl) (fun vs H Q E h => ?_) (fun cdv A outer s H vs Q E hr h => ?_)
  · obtain ⟨L, M, v, u, N, N', rfl, _⟩ := h
    rfl
  · obtain ⟨L, M, v, u, N, N', rfl, hM, hN, hN', h8, k, ke⟩ := h
    refine ⟨_, (pss_cons (ps_if (PW.pt (pw_or (pt_not (pt_val (pe_f G_is_number hr (by decide) (by rfl) T.g_is_number pass0 (pa_cons (pv 1) (pa_cons (pe_gc (by rfl) T.c_DEVICES) pa_nil))))) (pw_or1 (pt_not (pt_val (pe_f G_is_number hr (by decide) (by rfl) T.g_is_number pass0 (pa_cons (pv 2) (pa_cons (pe_gc (by rfl) T.c_BLOCKS) pa_nil)))))))) (pss_one (ps_raise rfl (takes_of rfl rfl rfl rfl) (pmk_bare T.ex_NotValid T.ini_NotValid T.ity_NotValid G_NotValid___init__ hr (by decide) pass0 (by rfl) T.g_NotValid))) pss_nil)
    (pss_one (ps_ret (pe_ix ix_list (pe_ix ix_list (pe_fld (pv 0) rfl) (pv 1) (fun _ _ => rfl)) (pv 2) (fun _ _ => rfl))))), ?_⟩
    refine ⟨_, rfl, v, N, _, rfl, hN, _, rfl, ?_⟩
    cases e : isNum v 2 with
    | false => exact ⟨fun a ha => ⟨a, _, rfl, T.ex_NotValid, upd_same, rfl, rfl⟩, ke (.inl e)⟩
    | true =>
      refine ⟨_, rfl, u, N', _, rfl, hN', _, rfl, ?_⟩
      cases e' : isNum u 8 with
      | false => exact ⟨fun a ha => ⟨a, _, rfl, T.ex_NotValid, upd_same, rfl, rfl⟩, ke (.inr e')⟩
      | true =>
        obtain ⟨d, rfl, hd⟩ := isNum_at (n := 2) e
        obtain ⟨j, rfl, hj⟩ := isNum_at (n := 8) e'
        have hx : (M.bl d)[j]? = some ((M.bl d)[j]'(by rw [h8 d hd]; exact hj)) := List.getElem?_eq_getElem (by rw [h8 d hd]; exact hj)
        have hb : ([V.ref (L.bl 0), V.ref (L.bl 1)] : List V)[d]? = some (V.ref (L.bl d)) := by
          rcases lt2 hd with rfl | rfl <;> rfl
        exact ⟨_, rfl, L.m, CM K, L.d, _, _, rfl, hM.om, T.cl_Memory, T.na_Memory__blocks, lm_B, _, rfl, L.aB, _, _, _, rfl, rfl, SqL.of hM.ob, atI_n hb, _, rfl, L.bl d, M.bl d, _, _, rfl, rfl, SqL.of (hM.obl d hd), atI_n hx, k d j _ hd rfl rfl hx⟩
theorem ok_log (T : Top K mg) : FnC P w K mg base CX0 1 (He.ma K (He.ga K "Memory") "log") (spLog K) := by
  refine fnc0 T.d_Memory_log sc_Memory_log (fun _ _ _ _ _ _ us hl => match us, hl with | [_], _ => rfl) (fun vs H Q E h => ?_) (fun cdv A outer s H vs Q E hr h => ?_)
  · obtain ⟨L, M, rfl, _⟩ := h
    rfl
  · obtain ⟨L, M, rfl, hM, k⟩ := h
    refine ⟨_, (pss_one (ps_ret (pe_callTy call_list_of (by rfl) T.b_list (by decide +kernel) (pa_cons (pe_fld (pv 0) rfl) pa_nil)))), ?_⟩
    exact ⟨_, rfl, L.m, CM K, L.d, _, _, rfl, hM.om, T.cl_Memory, T.na_Memory__log, lm_L, L.aL, M.log, rfl, .inl (SqL.of hM.ol), k⟩
end
end Rb
namespace Rb
open PySem PySem.Spec PyProof.Rows L2
/-! ### the tape -/
/-- a tape: small numbers, not too many -/
def TapeL (n : Nat) (ts : List Int) : Prop := ts.length ≤ n ∧ ∀ t ∈ ts, 0 ≤ t ∧ t < 1000
theorem TapeL.add {n : Nat} {ts : List Int} {t : Int} (h : TapeL n ts) (h0 : 0 ≤ t) (h1 : t < 1000) : TapeL (n + 1) (ts ++ [t]) := by
  refine ⟨by rw [List.length_append]; exact Nat.add_le_add_right h.1 1, fun x hx => ?_⟩
  rcases List.mem_append.mp hx with q | q
  · exact h.2 x q
  · rw [List.mem_singleton.mp q]
    exact ⟨h0, h1⟩
theorem TapeL.mono {m n : Nat} {ts : List Int} (h : TapeL m ts) (l : m ≤ n) : TapeL n ts := ⟨Nat.le_trans h.1 l, h.2⟩
theorem mod1000 (v : Int) : 0 ≤ v % 1000 ∧ v % 1000 < 1000 := ⟨Int.emod_nonneg _ (by decide), Int.emod_lt_of_pos _ (by decide)⟩
def spTape (K : PySem.W.Frag) : Sp := fun vs H Q _ => ∃ (a : Addr) (ns : List Int), vs = [.ref a] ∧ SqL K H a (ns.map V.int) ∧ ns.length ≤ 63 ∧
  ∀ (p : Addr) (H' : Hp) (ts : List Int), H p = none → Same H H' → H' p = some (.lst (ts.map V.int)) → TapeL 3780 ts → Q (.ref p) H'
def spAt (K : PySem.W.Frag) : Sp := fun vs H Q _ => ∃ (a : Addr) (ts : List Int) (j : Nat), vs = [.ref a, .int (j : Int)] ∧ SqL K H a (ts.map V.int) ∧ Q (.int (ts[j]?.getD 0)) H
section
variable {P : Program} {w : World} {K : PySem.W.Frag} {mg : Str → Option Value} {base : Heap}
theorem ok_law_tape (T : Top K mg) : FnC P w K mg base CX0 1 (He.ga K "_law_tape") (spTape K) := by
  refine fnc0 T.d__law_tape sc__law_tape (fun _ _ _ _ _ _ us hl => match us, hl with | [_], _ => rfl) (fun vs H Q E h => ?_) (fun cdv A outer s H vs Q E hr h => ?_)
  · obtain ⟨a, ns, rfl, _⟩ := h
    rfl
  · obtain ⟨a, ns, rfl, hS, hlen, k⟩ := h
    refine ⟨_, (pss_cons (ps_set (i := 1) sc__law_tape.nd rfl (Or.inl rfl) (pe_lst pa_nil))
    (pss_cons (ps_for PassesOwn.never rfl (pi_range1 (by rfl) T.b_range (pa_cons (pe_callB call_len_seq (by rfl) T.b_len PySem.boot_len (pa_cons (pv 0) pa_nil)) pa_nil)) (pg_name (i := 2) sc__law_tape.nd rfl (Or.inl rfl)) (pss_cons (ps_set (i := 3) sc__law_tape.nd rfl (Or.inl rfl) (pe_callB call_abs (by rfl) T.b_abs (by decide +kernel) (pa_cons (pe_callTy call_int1 (by rfl) T.b_int (by decide +kernel) (pa_cons (pe_ix ix_list (pv 0) (pv 2) (fun _ _ => rfl)) pa_nil)) pa_nil)))
    (pss_one (ps_if (pt_cmpR op_ge (pv 3) (pe_op op_pow pe_int pe_int) (nomark _)) (pss_one (ps_for PassesOwn.never rfl (pi_range1 (by rfl) T.b_range (pa_cons pe_int pa_nil)) (pg_name (i := 4) sc__law_tape.nd rfl (Or.inl rfl)) (pss_one (ps_if (pt_cmpR op_gt (pv 3) pe_int (nomark _)) (pss_cons (ps_expr (pe_bm PySem.F.plainAttrs_list PySem.F.slot_list_append PySem.F.type_list_append mt_append (pv 1) (pa_cons (pe_op op_mod (pv 3) pe_int) pa_nil)))
    (pss_one (ps_set (i := 3) sc__law_tape.nd rfl (Or.inl rfl) (pe_op op_fdiv (pv 3) pe_int)))) pss_nil)))) (pss_one (ps_for PassesOwn.never rfl (pi_range1 (by rfl) T.b_range (pa_cons pe_int pa_nil)) (pg_name (i := 4) sc__law_tape.nd rfl (Or.inl rfl)) (pss_cons (ps_set (i := 3) sc__law_tape.nd rfl (Or.inl rfl) (pe_op op_mod (pe_op op_add (pe_op op_add (pe_op op_mul (pv 3) pe_int) (pe_op op_mul pe_int (pe_op op_add (pv 2) pe_int))) (pe_op op_mul pe_int (pv 4))) pe_int))
    (pss_cons (ps_set (i := 3) sc__law_tape.nd rfl (Or.inl rfl) (pe_op op_mod (pe_op op_mul (pv 3) pe_int) pe_int))
    (pss_one (ps_expr (pe_bm PySem.F.plainAttrs_list PySem.F.slot_list_append PySem.F.type_list_append mt_append (pv 1) (pa_cons (pe_op op_mod (pe_op op_fdiv (pv 3) pe_int) pe_int) pa_nil))))))))))))
    (pss_one (ps_ret (pv 1))))), ?_⟩
    refine ⟨by decide, fun p hp => ?_⟩
    have s0 : Same H (upd H p (.lst [])) := Same.new (Same.refl H) hp
    refine ⟨_, rfl, a, ns.map V.int, rfl, .inl (Same.seq s0 hS), _, rfl, ?_, ?_, for_range (n := (ns.map V.int).length) (fun i σ H1 => ∃ x2 x3 x4 ts, σ = [some (.ref a), some (.ref p), x2, x3, x4] ∧ H1 p = some (.lst (ts.map V.int)) ∧ Same H H1 ∧ TapeL (60 * i) ts) ?_ ?_ ?_⟩
    · rw [List.length_map]
      omega
    · rw [List.length_map]
      omega
    · exact ⟨none, none, none, [], rfl, upd_same, s0, Nat.zero_le _, fun t ht => (nomatch ht)⟩
    · rintro i σ H1 hi ⟨x2, x3, x4, ts, rfl, hL, s1, ht⟩
      have hi : i < ns.length := by
        rw [List.length_map] at hi
        exact hi
      have hx : (ns.map V.int)[i]? = some (V.int ns[i]) := by
        rw [List.getElem?_map, List.getElem?_eq_getElem hi]
        rfl
      refine ⟨_, rfl, _, rfl, a, _, _, V.int ns[i], rfl, rfl, Same.seq s1 hS, ?_, .inl ⟨ns[i], rfl, _, rfl, ?_⟩⟩
      · rw [Int.zero_add]
        exact atI_n hx
      generalize (if ns[i] < 0 then -ns[i] else ns[i]) = v
      refine ⟨_, rfl, _, _, rfl, rfl, ⟨by decide, by decide, by decide⟩, _, _, rfl, rfl, _, rfl, ?_⟩
      refine ite2 (fun _ => ?_) (fun _ => ?_)
      · -- the long way
        refine ⟨60, rfl, by decide, by decide, for_range (n := 60) (fun j σ H2 => ∃ v x4 ts, σ = [some (.ref a), some (.ref p), some (.int (0 + (i : Int))), some (.int v), x4] ∧ H2 p = some (.lst (ts.map V.int)) ∧ Same H H2 ∧ TapeL (60 * i + j) ts) ?_ ?_ ?_⟩
        · exact ⟨v, x4, ts, rfl, hL, s1, ht⟩
        · rintro j σ H2 hj ⟨v, x4, ts, rfl, hL2, s2, ht2⟩
          refine ⟨_, rfl, _, _, rfl, rfl, _, rfl, ?_⟩
          refine ite2 (fun _ => ?_) (fun _ => ?_)
          · refine ⟨_, rfl, .inl ⟨rfl, _, SqL.of hL2⟩, _, rfl, _, _, rfl, rfl, (by show (0 : Int) < 1000; decide), p, _, _, rfl, rfl, hL2, ?_, ?_⟩
            · rw [List.length_map]
              exact Nat.lt_of_le_of_lt (Nat.le_trans ht2.1 (show 60 * i + j ≤ 3780 by omega)) (by decide : 3780 < sizeLine)
            · refine ⟨_, rfl, _, _, rfl, rfl, ⟨by decide, by decide⟩, ?_⟩
              refine ⟨_, _, ts ++ [v % 1000], rfl, ?_, fun b o e => ?_, ht2.add (mod1000 v).1 (mod1000 v).2⟩
              · rw [upd_same, List.map_append]
                rfl
              · rw [upd_ne (ne_of_none e hp)]
                exact s2 b o e
          · exact ⟨v, _, ts, rfl, hL2, s2, ht2.mono (by omega)⟩
        · rintro σ H2 ⟨v, x4, ts, rfl, hL2, s2, ht2⟩
          exact ⟨_, _, _, ts, rfl, hL2, s2, ht2.mono (by omega)⟩
      · refine ⟨4, rfl, by decide, by decide, for_range (n := 4) (fun j σ H2 => ∃ v x4 ts, σ = [some (.ref a), some (.ref p), some (.int (0 + (i : Int))), some (.int v), x4] ∧ H2 p = some (.lst (ts.map V.int)) ∧ Same H H2 ∧ TapeL (60 * i + j) ts) ?_ ?_ ?_⟩
        · exact ⟨v, x4, ts, rfl, hL, s1, ht⟩
        · rintro j σ H2 hj ⟨v, x4, ts, rfl, hL2, s2, ht2⟩
          refine ⟨_, rfl, _, _, rfl, rfl, .inr ⟨by decide, by decide⟩, _, rfl, _, _, rfl, rfl, _, _, rfl, rfl, .inl ⟨by decide, by decide⟩, _, _, rfl, rfl, _, rfl, _, _, rfl, rfl, .inl ⟨by decide, by decide⟩, _, _, rfl, rfl, _, _, rfl, rfl, (by show (0 : Int) < 2147483647; decide), ?_⟩
          refine ⟨_, rfl, _, _, rfl, rfl, .inr ⟨by decide, by decide⟩, _, _, rfl, rfl, (by show (0 : Int) < 2147483647; decide), ?_⟩
          refine ⟨_, rfl, .inl ⟨rfl, _, SqL.of hL2⟩, _, rfl, _, _, rfl, rfl, ⟨by decide, by decide⟩, _, _, rfl, rfl, (by show (0 : Int) < 1000; decide), p, _, _, rfl, rfl, hL2, ?_, ?_⟩
          · rw [List.length_map]
            exact Nat.lt_of_le_of_lt (Nat.le_trans ht2.1 (show 60 * i + j ≤ 3780 by omega)) (by decide : 3780 < sizeLine)
          · refine ⟨_, _, ts ++ [((v * 48271 + 69621 * (0 + (i : Int) + 1) + 7 * (0 + (j : Int))) % 2147483647 * 16807 % 2147483647 / 1000) % 1000], rfl, ?_, fun b o e => ?_, ht2.add (mod1000 _).1 (mod1000 _).2⟩
            · rw [upd_same, List.map_append]
              rfl
            · rw [upd_ne (ne_of_none e hp)]
              exact s2 b o e
        · rintro σ H2 ⟨v, x4, ts, rfl, hL2, s2, ht2⟩
          exact ⟨_, _, _, ts, rfl, hL2, s2, ht2.mono (by omega)⟩
    · rintro σ H1 ⟨x2, x3, x4, ts, rfl, hL, s1, ht⟩
      rw [List.length_map] at ht
      exact ⟨_, rfl, k p H1 ts hp s1 hL (ht.mono (by omega))⟩
theorem ok_law_at (T : Top K mg) : FnC P w K mg base CX0 1 (He.ga K "_law_at") (spAt K) := by
  refine fnc0 T.d__law_at sc__law_at (fun _ _ _ _ _ _ us hl => match us, hl with | [_, _], _ => rfl) (fun vs H Q E h => ?_) (fun cdv A outer s H vs Q E hr h => ?_)
  · obtain ⟨a, ts, j, rfl, _⟩ := h
    rfl
  · obtain ⟨a, ts, j, rfl, hS, k⟩ := h
    refine ⟨_, (pss_cons (ps_if (pt_cmpR op_lt (pv 1) (pe_callB call_len_seq (by rfl) T.b_len PySem.boot_len (pa_cons (pv 0) pa_nil)) (nomark _)) (pss_one (ps_ret (pe_ix ix_list (pv 0) (pv 1) (fun _ _ => rfl)))) pss_nil)
    (pss_one (ps_ret pe_int))), ?_⟩
    refine ⟨_, rfl, _, rfl, a, _, rfl, .inl hS, _, _, rfl, rfl, _, rfl, ?_⟩
    rw [List.length_map]
    refine ite2 (fun c => ?_) (fun c => ?_)
    · have hj : j < ts.length := by
        have := of_decide_eq_true c
        omega
      have hx : (ts.map V.int)[j]? = some (V.int (ts[j]?.getD 0)) := by
        rw [List.getElem?_map, List.getElem?_eq_getElem hj]
        rfl
      exact ⟨_, rfl, _, rfl, a, _, _, _, rfl, rfl, hS, atI_n hx, k⟩
    · have hj : ts.length ≤ j := by
        have := of_decide_eq_false (by simpa using c : decide ((j : Int) < (ts.length : Int)) = false)
        omega
      rw [List.getElem?_eq_none hj] at k
      exact k
end
end Rb
namespace Rb
open PySem PySem.Spec PyProof.Rows L2
/-! ### the list of all cells -/
def rng (n : Nat) : List V := (List.range n).map fun (k : Nat) => V.int (k : Int)
theorem rng_len (n : Nat) : (rng n).length = n := by
  unfold rng
  rw [List.length_map, List.length_range]
theorem rng_add {n m : Nat} {g : Nat → Int} (h : ∀ j, j < m → g j = ((n + j : Nat) : Int)) : rng n ++ (List.range m).map (fun j => V.int (g j)) = rng (n + m) := by
  unfold rng
  rw [List.range_add, List.map_append, List.map_map]
  congr 1
  refine List.map_congr_left fun j hj => ?_
  rw [h j (List.mem_range.mp hj)]
  rfl
def spListed : Sp := fun vs H Q _ => vs = [] ∧ ∀ (p : Addr) (H' : Hp), H p = none → Same H H' → H' p = some (.lst (rng 70)) → Q (.ref p) H'
section
variable {P : Program} {w : World} {K : PySem.W.Frag} {mg : Str → Option Value} {base : Heap}
theorem ok_law_listed (T : Top K mg) : FnC P w K mg base CX0 5 (He.ga K "_law_listed") spListed := by
  have G_frame_cell := ok_frame_cell (P := P) (w := w) (base := base) T
  have G_doorbell := ok_doorbell (P := P) (w := w) (base := base) T
  have G_reset := ok_reset (P := P) (w := w) (base := base) T
  have G_ready := ok_ready (P := P) (w := w) (base := base) T
  have G_interrupt := ok_interrupt (P := P) (w := w) (base := base) T
  have G_table_word := ok_table_word (P := P) (w := w) (base := base) T
  have G_acknowledge := ok_acknowledge (P := P) (w := w) (base := base) T
  refine fnc0 T.d__law_listed sc__law_listed (fun _ _ _ _ _ _ us hl => match us, hl with | [], _ => rfl) (fun vs H Q E h => ?_) (fun cdv A outer s H vs Q E hr h => ?_)
  · obtain ⟨rfl, _⟩ := h
    rfl
  · obtain ⟨rfl, k⟩ := h
    refine ⟨_, (pss_cons (ps_set (i := 0) sc__law_listed.nd rfl (Or.inl rfl) (pe_lst pa_nil))
    (pss_cons (ps_for PassesOwn.never rfl (pi_range1 (by rfl) T.b_range (pa_cons pe_int pa_nil)) (pg_name (i := 1) sc__law_listed.nd rfl (Or.inr rfl)) (pss_one (ps_for PassesOwn.never rfl (pi_range1 (by rfl) T.b_range (pa_cons pe_int pa_nil)) (pg_name (i := 2) sc__law_listed.nd rfl (Or.inr rfl)) (pss_one (ps_set (i := 0) sc__law_listed.nd rfl (Or.inl rfl) (pe_op op_cat (pv 0) (pe_lc (own := [("index", 4)]) (g := gName 4) (tt := tYes) rfl sc__law_listed.nd (pi_range1 (by rfl) T.b_range (pa_cons pe_int pa_nil)) (blkOk_by (N := ["cells", "device", "frame", "page", "index"]) (sc := defScope s__law_listed) (by decide +kernel)) (fun _ _ _ _ _ => (pg_name (i := 4) sc__law_listed.nd rfl (Or.inl rfl))) (fun _ _ _ _ _ => pts_nil) (fun _ _ _ _ _ => (pe_f G_frame_cell hr (by decide) (by rfl) T.g_frame_cell pass0 (pa_cons (pv 1) (pa_cons (pv 2) (pa_cons (pv 4) pa_nil))))))))))))
    (pss_cons (ps_for PassesOwn.never rfl (pi_range1 (by rfl) T.b_range (pa_cons pe_int pa_nil)) (pg_name (i := 1) sc__law_listed.nd rfl (Or.inr rfl)) (pss_one (ps_set (i := 0) sc__law_listed.nd rfl (Or.inl rfl) (pe_op op_cat (pv 0) (pe_lst (pa_cons (pe_f G_doorbell hr (by decide) (by rfl) T.g_doorbell pass0 (pa_cons (pv 1) pa_nil)) (pa_cons (pe_f G_reset hr (by decide) (by rfl) T.g_reset pass0 (pa_cons (pv 1) pa_nil)) (pa_cons (pe_f G_ready hr (by decide) (by rfl) T.g_ready pass0 (pa_cons (pv 1) pa_nil)) (pa_cons (pe_f G_interrupt hr (by decide) (by rfl) T.g_interrupt pass0 (pa_cons (pv 1) pa_nil)) pa_nil)))))))))
    (pss_cons (ps_for PassesOwn.never rfl (pi_range1 (by rfl) T.b_range (pa_cons pe_int pa_nil)) (pg_name (i := 1) sc__law_listed.nd rfl (Or.inr rfl)) (pss_one (ps_set (i := 0) sc__law_listed.nd rfl (Or.inl rfl) (pe_op op_cat (pv 0) (pe_lc (own := [("page", 3)]) (g := gName 3) (tt := tYes) rfl sc__law_listed.nd (pi_range1 (by rfl) T.b_range (pa_cons pe_int pa_nil)) (blkOk_by (N := ["cells", "device", "frame", "page", "index"]) (sc := defScope s__law_listed) (by decide +kernel)) (fun _ _ _ _ _ => (pg_name (i := 3) sc__law_listed.nd rfl (Or.inl rfl))) (fun _ _ _ _ _ => pts_nil) (fun _ _ _ _ _ => (pe_f G_table_word hr (by decide) (by rfl) T.g_table_word pass0 (pa_cons (pv 1) (pa_cons (pv 3) pa_nil)))))))))
    (pss_one (ps_ret (pe_op op_cat (pv 0) (pe_lst (pa_cons (pe_f G_acknowledge hr (by decide) (by rfl) T.g_acknowledge pass0 (pa_cons pe_int pa_nil)) (pa_cons (pe_f G_acknowledge hr (by decide) (by rfl) T.g_acknowledge pass0 (pa_cons pe_int pa_nil)) pa_nil)))))))))), ?_⟩
    refine ⟨by decide, fun c0 h0 => ?_⟩
    refine ⟨2, rfl, by decide, by decide, for_range (n := 2) (fun i σ H1 => ∃ c x1 x2 x3 x4, σ = [some (.ref c), x1, x2, x3, x4] ∧ H1 c = some (.lst (rng (24 * i))) ∧ Same H H1 ∧ H c = none) ?_ ?_ ?_⟩
    · exact ⟨c0, none, none, none, none, rfl, upd_same, Same.new (Same.refl H) h0, h0⟩
    · rintro i σ H1 hi ⟨c, x1, x2, x3, x4, rfl, hL, s1, hc⟩
      refine ⟨6, rfl, by decide, by decide, for_range (n := 6) (fun f σ H2 => ∃ c x2 x3 x4, σ = [some (.ref c), some (.int (0 + (i : Int))), x2, x3, x4] ∧ H2 c = some (.lst (rng (24 * i + 4 * f))) ∧ Same H H2 ∧ H c = none) ?_ ?_ ?_⟩
      · exact ⟨c, x2, x3, x4, rfl, hL, s1, hc⟩
      · rintro f σ H2 hf ⟨c, x2, x3, x4, rfl, hL2, s2, hc2⟩
        refine ⟨_, rfl, 4, rfl, by decide, by decide, fun D hD => ?_⟩
        refine lc_range (n := 4) (fun j H3 => H3 D = some (.lst ((List.range j).map fun t : Nat => V.int (fcell (0 + (i : Int)) (0 + (f : Int)) (0 + (t : Int))))) ∧ Same H2 H3) ?_ ?_ ?_
        · exact ⟨upd_same, Same.new (Same.refl H2) hD⟩
        · rintro j H3 hj ⟨e3, s3⟩
          refine ⟨rfl, ?_⟩
          refine ⟨_, rfl, _, rfl, _, rfl, _, _, _, rfl, _, e3, ?_, ?_, fun b o hb => ?_⟩
          · rw [List.length_map, List.length_range]
            exact Nat.lt_trans hj (by decide)
          · rw [upd_same, List.range_succ, List.map_append]
            rfl
          · rw [upd_ne (ne_of_none hb hD)]
            exact s3 b o hb
        · rintro H3 ⟨e3, s3⟩
          refine ⟨c, D, _, _, rfl, rfl, s3 _ _ hL2, e3, ?_, fun p hp => ?_⟩
          · rw [rng_len, List.length_map, List.length_range]
            exact Nat.le_trans (show 24 * i + 4 * f + 4 ≤ 100 by omega) (by decide)
          · refine ⟨p, _, _, _, rfl, ?_, Same.new (fun b o hb => s3 b o (s2 b o hb)) (Same.free (fun b o hb => s3 b o (s2 b o hb)) hp), Same.free (fun b o hb => s3 b o (s2 b o hb)) hp⟩
            rw [upd_same, rng_add (g := fun t => fcell (0 + (i : Int)) (0 + (f : Int)) (0 + (t : Int))) fun j hj => by
              unfold fcell
              omega]
            rfl
      · rintro σ H2 ⟨c, x2, x3, x4, rfl, hL2, s2, hc2⟩
        exact ⟨c, _, _, _, _, rfl, hL2, s2, hc2⟩
    · rintro σ H1 ⟨c, x1, x2, x3, x4, rfl, hL, s1, hc⟩
      refine ⟨2, rfl, by decide, by decide, for_range (n := 2) (fun i σ H1 => ∃ c x1 x2 x3 x4, σ = [some (.ref c), x1, x2, x3, x4] ∧ H1 c = some (.lst (rng (48 + 4 * i))) ∧ Same H H1 ∧ H c = none) ?_ ?_ ?_⟩
      · exact ⟨c, x1, x2, x3, x4, rfl, hL, s1, hc⟩
      · rintro i σ H2 hi ⟨c, x1, x2, x3, x4, rfl, hL2, s2, hc2⟩
        refine ⟨_, rfl, _, rfl, _, rfl, _, rfl, _, rfl, _, rfl, _, rfl, _, rfl, _, rfl, (by show 4 ≤ sizeLine; decide), fun q hq => ?_⟩
        have s3 := Same.new (o := HO.lst ((List.range 4).map fun t : Nat => V.int (dbell (0 + (i : Int)) + (t : Int)))) (Same.refl H2) hq
        refine ⟨c, q, _, (List.range 4).map fun t : Nat => V.int (dbell (0 + (i : Int)) + (t : Int)), rfl, rfl, s3 _ _ hL2, ?_, ?_, fun p hp => ?_⟩
        · rw [upd_same]
          refine congrArg (fun x => some (HO.lst x)) ?_
          show [V.int (dbell (0 + (i : Int))), _, _, _] = [V.int (dbell (0 + (i : Int)) + ((0 : Nat) : Int)), _, _, _]
          rw [show dbell (0 + (i : Int)) + ((0 : Nat) : Int) = dbell (0 + (i : Int)) from Int.add_zero _]
          rfl
        · rw [rng_len, List.length_map, List.length_range]
          exact Nat.le_trans (show 48 + 4 * i + 4 ≤ 100 by omega) (by decide)
        · have s4 : Same H (upd H2 q (.lst ((List.range 4).map fun t : Nat => V.int (dbell (0 + (i : Int)) + (t : Int))))) := fun b o hb => s3 b o (s2 b o hb)
          refine ⟨p, _, _, _, _, rfl, ?_, Same.new s4 (s4.free hp), s4.free hp⟩
          rw [upd_same, rng_add (g := fun t => dbell (0 + (i : Int)) + (t : Int)) fun j hj => by
            unfold dbell
            omega]
          rfl
      · rintro σ H1 ⟨c, x1, x2, x3, x4, rfl, hL, s1, hc⟩
        refine ⟨2, rfl, by decide, by decide, for_range (n := 2) (fun i σ H1 => ∃ c x1 x2 x3 x4, σ = [some (.ref c), x1, x2, x3, x4] ∧ H1 c = some (.lst (rng (56 + 6 * i))) ∧ Same H H1 ∧ H c = none) ?_ ?_ ?_⟩
        · exact ⟨c, x1, x2, x3, x4, rfl, hL, s1, hc⟩
        · rintro i σ H2 hi ⟨c, x1, x2, x3, x4, rfl, hL2, s2, hc2⟩
          refine ⟨_, rfl, 6, rfl, by decide, by decide, fun D hD => ?_⟩
          refine lc_range (n := 6) (fun j H3 => H3 D = some (.lst ((List.range j).map fun t : Nat => V.int (tword (0 + (i : Int)) (0 + (t : Int))))) ∧ Same H2 H3) ?_ ?_ ?_
          · exact ⟨upd_same, Same.new (Same.refl H2) hD⟩
          · rintro j H3 hj ⟨e3, s3⟩
            refine ⟨rfl, ?_⟩
            refine ⟨_, rfl, _, rfl, _, _, rfl, _, e3, ?_, ?_, fun b o hb => ?_⟩
            · rw [List.length_map, List.length_range]
              exact Nat.lt_trans hj (by decide)
            · rw [upd_same, List.range_succ, List.map_append]
              rfl
            · rw [upd_ne (ne_of_none hb hD)]
              exact s3 b o hb
          · rintro H3 ⟨e3, s3⟩
            refine ⟨c, D, _, _, rfl, rfl, s3 _ _ hL2, e3, ?_, fun p hp => ?_⟩
            · rw [rng_len, List.length_map, List.length_range]
              exact Nat.le_trans (show 56 + 6 * i + 6 ≤ 100 by omega) (by decide)
            · refine ⟨p, _, _, _, _, rfl, ?_, Same.new (fun b o hb => s3 b o (s2 b o hb)) (Same.free (fun b o hb => s3 b o (s2 b o hb)) hp), Same.free (fun b o hb => s3 b o (s2 b o hb)) hp⟩
              rw [upd_same, rng_add (g := fun t => tword (0 + (i : Int)) (0 + (t : Int))) fun j hj => by
                unfold tword
                omega]
              rfl
        · rintro σ H1 ⟨c, x1, x2, x3, x4, rfl, hL, s1, hc⟩
          refine ⟨_, rfl, _, rfl, _, rfl, (by show 2 ≤ sizeLine; decide), fun q hq => ?_⟩
          have s2 := Same.new (o := HO.lst [V.int (ackw 0), V.int (ackw 1)]) (Same.refl H1) hq
          have s3 : Same H _ := fun b o hb => s2 b o (s1 b o hb)
          refine ⟨c, q, _, _, rfl, rfl, s2 _ _ hL, upd_same, ?_, fun p hp => ?_⟩
          · rw [rng_len]
            decide
          · exact k p _ (s3.free hp) (Same.new s3 (s3.free hp)) upd_same
end
end Rb
namespace Rb
open PySem PySem.Spec PyProof.Rows L2
/-- what is refused -/
def Wrong (M : MS) (act : Str) (v u : V) : Prop :=
  (act = "peek" ∧ isNum v (M.cells.length : Int) = false) ∨ (act = "journal" ∧ M.jo.length = 2 ∧ isNum v 2 = false) ∨ (act = "block" ∧ (∀ d, d < 2 → (M.bl d).length = 8) ∧ (isNum v 2 = false ∨ isNum u 8 = false))
def spTold (K : PySem.W.Frag) : Sp := fun vs H Q _ => ∃ (L : ML) (M : MS) (act : Str) (v u : V) (N N' : String), vs = [.ref L.m, .str act, v, u] ∧ MemAt (CM K) (CG K) L H M ∧ TyB K H v N ∧ TyB K H u N' ∧ Wrong M act v u ∧
  ∀ p, H p = none → Q (.ref p) (upd H p (.lst [.str "refused", .bl true]))
section
variable {P : Program} {w : World} {K : PySem.W.Frag} {mg : Str → Option Value} {base : Heap}
theorem mNo {n : Int} {aG aC aB aJ aL : Addr} {f : Str} (h : fix f mNames = none := by decide +kernel) : (mFld n aG aC aB aJ aL).lookup f = none := zn h
theorem gNo {n : Int} {e q : Addr} {f : Str} (h : fix f gNames = none := by decide +kernel) : (gFld e q n).lookup f = none := zn h
theorem ok_law_told (T : Top K mg) : FnC P w K mg base CX0 5 (He.ga K "_law_told") (spTold K) := by
  have G_Memory_peek := ok_peek (P := P) (w := w) (base := base) T
  have G_Memory_journal := ok_journal (P := P) (w := w) (base := base) T
  have G_Memory_block := ok_block (P := P) (w := w) (base := base) T
  refine fnc0 T.d__law_told sc__law_told (fun _ _ _ _ _ _ us hl => match us, hl with | [_, _, _, _], _ => rfl) (fun vs H Q E h => ?_) (fun cdv A outer s H vs Q E hr h => ?_)
  · obtain ⟨L, M, act, v, u, N, N', rfl, _⟩ := h
    rfl
  · obtain ⟨L, M, act, v, u, N, N', rfl, hM, hN, hN', hW, k⟩ := h
    refine ⟨_, (pss_one (ps_try_as (i := 4) (Wout := fun _ _ _ _ => False) rfl rfl sc__law_told.nd rfl rfl ⟨rfl, by decide, .inl T.g_RingError⟩ takes0 (fun W pn xe tk _ => (pss_cons (ps_if (pt_cmpR op_eq (pv 1) pe_str (nomark _)) (pss_one (ps_ret (pe_mS G_Memory_peek hr (by decide) T.cl_Memory T.me_Memory_peek (fun σ => passAt tk σ) (pv 0) (pa_cons (pv 2) pa_nil)))) pss_nil)
    (pss_cons (ps_if (pt_cmpR op_eq (pv 1) pe_str (nomark _)) (pss_one (ps_ret (pe_mS G_Memory_journal hr (by decide) T.cl_Memory T.me_Memory_journal (fun σ => passAt tk σ) (pv 0) (pa_cons (pv 2) pa_nil)))) pss_nil)
    (pss_one (ps_ret (pe_mS G_Memory_block hr (by decide) T.cl_Memory T.me_Memory_block (fun σ => passAt tk σ) (pv 0) (pa_cons (pv 2) (pa_cons (pv 3) pa_nil)))))))) (fun a oe cls d pn hz hf => (pss_one (ps_ret (pe_lst (pa_cons pe_str (pa_cons (pe_isX T.xc_NotValid hz hf (by rfl) T.b_isinstance (by decide +kernel) (pa_cons (pv 4) (pa_cons (pe_glob (v := .ref (He.ga K "NotValid")) (by rfl) T.g_NotValid rfl) pa_nil))) pa_nil)))))))), ?_⟩
    have no : ∀ {m : Str}, fix m mNames = none → (mFld M.count L.aG L.aC L.aB L.aJ L.aL).lookup m = none := fun h => zn h
    have done : ∀ a : Addr, H a = none → _ := fun a ha => k a ha
    refine ⟨_, rfl, rfl, _, rfl, ?_⟩
    rcases hW with ⟨rfl, e⟩ | ⟨rfl, h2, e⟩ | ⟨rfl, h8, e⟩
    · refine ⟨_, rfl, L.m, L.d, _, rfl, hM.om, no (by decide +kernel), _, rfl, L, M, v, N, rfl, hM, hN, fun j x hv hx => ?_, fun _ => ?_⟩
      · subst hv
        rw [isNum_nat (List.getElem?_eq_some_iff.mp hx).1] at e
        cases e
      · refine ⟨true, T.exm_NotValid_RingError_T, fun _ a ha => ?_, fun q => nomatch q⟩
        exact ⟨rfl, rfl, _, rfl, _, _, _, rfl, fun u hu => hu, T.kit_NotValid_NotValid_T, by show 2 ≤ sizeLine; decide, k⟩
    · refine ⟨_, rfl, rfl, _, rfl, ?_⟩
      refine ⟨_, rfl, L.m, L.d, _, rfl, hM.om, no (by decide +kernel), _, rfl, L, M, v, N, rfl, hM, hN, h2, fun j x hv hx => ?_, fun _ => ?_⟩
      · subst hv
        rw [show isNum (.int (j : Int)) ((2 : Int)) = true from isNum_nat (n := 2) (by rw [← h2]; exact (List.getElem?_eq_some_iff.mp hx).1)] at e
        cases e
      · refine ⟨true, T.exm_NotValid_RingError_T, fun _ a ha => ?_, fun q => nomatch q⟩
        exact ⟨rfl, rfl, _, rfl, _, _, _, rfl, fun u hu => hu, T.kit_NotValid_NotValid_T, by show 2 ≤ sizeLine; decide, k⟩
    · refine ⟨_, rfl, rfl, _, rfl, ?_⟩
      refine ⟨_, rfl, L.m, L.d, _, rfl, hM.om, no (by decide +kernel), _, rfl, _, rfl, L, M, v, u, N, N', rfl, hM, hN, hN', h8, fun d j x hd hv hu hx => ?_, fun _ => ?_⟩
      · subst hv hu
        have q1 : isNum (.int (d : Int)) 2 = true := isNum_nat (n := 2) hd
        have q2 : isNum (.int (j : Int)) 8 = true := isNum_nat (n := 8) (by rw [← h8 d hd]; exact (List.getElem?_eq_some_iff.mp hx).1)
        rw [q1, q2] at e
        rcases e with e | e <;> cases e
      · refine ⟨true, T.exm_NotValid_RingError_T, fun _ a ha => ?_, fun q => nomatch q⟩
        exact ⟨rfl, rfl, _, rfl, _, _, _, rfl, fun u hu => hu, T.kit_NotValid_NotValid_T, by show 2 ≤ sizeLine; decide, k⟩
end
end Rb
namespace Rb
open PySem PySem.Spec PyProof.Rows L2
theorem cells0_at : ∀ c < 70, cells0[c]? = some (if c < 8 ∨ (24 ≤ c ∧ c < 32) ∨ (56 ≤ c ∧ c < 68) then V.non else V.int 0) := by decide +kernel
theorem cells0_len : cells0.length = 70 := fcD_len 2
def dRng (n : Nat) : List PyData := (List.range n).map fun (k : Nat) => PyData.int (k : Int)
theorem dp_ints {K : PySem.W.Frag} {H : Hp} : ∀ l : List Nat, DpAll K H (l.map fun (k : Nat) => V.int (k : Int)) (l.map fun (k : Nat) => PyData.int (k : Int))
  | [] => .nil
  | _ :: r => .cons (.int _) (dp_ints r)
theorem notNum {i l : Int} (h : i < 0 ∨ l ≤ i) : isNum (.int i) l = false := by
  show (decide (0 ≤ i) && decide (i < l)) = false
  rcases h with h | h
  · rw [decide_eq_false (by omega)]
    rfl
  · rw [decide_eq_false (by omega : ¬ i < l), Bool.and_false]
def dRef : PyData := .list [.str "refused", .bool true]
theorem told_same {K : PySem.W.Frag} {H : Hp} {p q : Addr} {Q : Bool → Hp → Prop} (hp : H p = some (.lst [.str "refused", .bl true])) (hq : H q = some (.lst [.str "refused", .bl true])) (k : Q false H) :
    rNeD K (.ref p) (.ref q) H (fun x H' => ∃ c, x = .bl c ∧ Q c H') :=
  ne_same (d := dRef) (e := dRef) (.lst (SqL.of hp) (.cons (.str _) (.cons (.bl _) .nil))) (.lst (SqL.of hq) (.cons (.str _) (.cons (.bl _) .nil))) (by decide +kernel) (by decide +kernel) (by decide +kernel) k
def dFive : PyData := .tuple [.int 2, .int 6, .int 6, .int 4, .int 8]
def dZero : PyData := .tuple [.int 0, .int 0, .int 0, .int 0]
theorem wrongP {t : Int} (ht : 0 ≤ t) {v : V} (h : v ∈ [V.int 70, .int (-1), .int (70 + t), .non]) : ∃ N, (∀ (K : PySem.W.Frag) (H : Hp), TyB K H v N) ∧ isNum v 70 = false := by
  simp at h
  rcases h with rfl | rfl | rfl | rfl
  · exact ⟨_, fun _ _ => .int _, notNum (.inr (by decide))⟩
  · exact ⟨_, fun _ _ => .int _, notNum (.inl (by decide))⟩
  · exact ⟨_, fun _ _ => .int _, notNum (.inr (by omega))⟩
  · exact ⟨_, fun _ _ => .non, rfl⟩
theorem wrongD {t : Int} (ht : 0 ≤ t) {v : V} (h : v ∈ [V.int 2, .int (-1), .int (2 + t)]) : ∃ N, (∀ (K : PySem.W.Frag) (H : Hp), TyB K H v N) ∧ isNum v 2 = false := by
  simp at h
  rcases h with rfl | rfl | rfl
  · exact ⟨_, fun _ _ => .int _, notNum (.inr (by decide))⟩
  · exact ⟨_, fun _ _ => .int _, notNum (.inl (by decide))⟩
  · exact ⟨_, fun _ _ => .int _, notNum (.inr (by omega))⟩
theorem wrongB {t : Int} (ht : 0 ≤ t) {v : V} (h : v ∈ [V.int 8, .int (-1), .int (9 + t)]) : ∃ N, (∀ (K : PySem.W.Frag) (H : Hp), TyB K H v N) ∧ isNum v 8 = false := by
  simp at h
  rcases h with rfl | rfl | rfl
  · exact ⟨_, fun _ _ => .int _, notNum (.inr (by decide))⟩
  · exact ⟨_, fun _ _ => .int _, notNum (.inl (by decide))⟩
  · exact ⟨_, fun _ _ => .int _, notNum (.inr (by omega))⟩
theorem tape_at {ts : List Int} (h : TapeL 3780 ts) (j : Nat) : 0 ≤ ts[j]?.getD 0 ∧ ts[j]?.getD 0 < 1000 := by
  cases e : ts[j]? with
  | none => exact ⟨Int.le_refl _, by show (0 : Int) < 1000; decide⟩
  | some t => exact h.2 t (List.mem_of_getElem? e)
theorem pick4 {t : Int} (h : 0 ≤ t) (xs : List V) (hl : xs.length = 4) : ∃ v, v ∈ xs ∧ atI xs (t % 4) = some v := by
  obtain ⟨j, hj, e⟩ : ∃ j : Nat, j < 4 ∧ t % 4 = (j : Int) := ⟨(t % 4).toNat, by omega, by omega⟩
  have hx : xs[j]? = some (xs[j]'(by omega)) := List.getElem?_eq_getElem (by omega)
  exact ⟨_, List.mem_of_getElem? hx, by rw [e]; exact atI_n hx⟩
theorem pick3 {t : Int} (h : 0 ≤ t) (xs : List V) (hl : xs.length = 3) : ∃ v, v ∈ xs ∧ atI xs (t % 3) = some v := by
  obtain ⟨j, hj, e⟩ : ∃ j : Nat, j < 3 ∧ t % 3 = (j : Int) := ⟨(t % 3).toNat, by omega, by omega⟩
  have hx : xs[j]? = some (xs[j]'(by omega)) := List.getElem?_eq_getElem (by omega)
  exact ⟨_, List.mem_of_getElem? hx, by rw [e]; exact atI_n hx⟩
def spLaw (K : PySem.W.Frag) : Sp := fun vs H Q _ => ∃ (a : Addr) (ns : List Int), vs = [.ref a] ∧ SqL K H a (ns.map V.int) ∧ ns.length ≤ 63 ∧ ∀ H', Q (.bl true) H'
section
variable {P : Program} {w : World} {K : PySem.W.Frag} {mg : Str → Option Value} {base : Heap}
theorem ok_law (T : Top K mg) {fd : FuncData} (F : FunD K "law" "law" (defArgs s_law) (defBody s_law) (defScope s_law) [] [] (He.ga K "law") fd) : FnOk P w K mg base CX0 8 (He.ga K "law") fd ["script"] (spLaw K) := by
  have G__law_listed := ok_law_listed (P := P) (w := w) (base := base) T
  have G__law_tape := ok_law_tape (P := P) (w := w) (base := base) T
  have G_Memory___init__ := ok_Memory_init (P := P) (w := w) (base := base) T
  have G_Memory_peek := ok_peek (P := P) (w := w) (base := base) T
  have G_Memory_journal := ok_journal (P := P) (w := w) (base := base) T
  have G_Memory_block := ok_block (P := P) (w := w) (base := base) T
  have G_Memory_log := ok_log (P := P) (w := w) (base := base) T
  have G_Guard_entries := ok_Guard_entries (P := P) (w := w) (base := base) T
  have G_Guard_queue := ok_Guard_queue (P := P) (w := w) (base := base) T
  have G__law_at := ok_law_at (P := P) (w := w) (base := base) T
  have G__law_told := ok_law_told (P := P) (w := w) (base := base) T
  refine fnk0 F sc_law (fun vs H Q E h => ?_) (fun cdv A outer s H vs Q E hr h => ?_)
  · obtain ⟨a, ns, rfl, _⟩ := h
    rfl
  · obtain ⟨a, ns, rfl, hS, hlen, k⟩ := h
    have hu := hu_of hr
    have hu64 := hr.units
    refine ⟨_, (pss_cons (ps_if (PW.pt (pw_or (pt_cmpR (op_neD hu64) (pe_tup (pa_cons (pe_gc (by rfl) T.c_DEVICES) (pa_cons (pe_gc (by rfl) T.c_PAGES) (pa_cons (pe_gc (by rfl) T.c_FRAMES) (pa_cons (pe_gc (by rfl) T.c_CELLS) (pa_cons (pe_gc (by rfl) T.c_BLOCKS) pa_nil)))))) (pe_tup (pa_cons pe_int (pa_cons pe_int (pa_cons pe_int (pa_cons pe_int (pa_cons pe_int pa_nil)))))) (nomark _)) (pw_or1 (pt_cmpR (op_neD hu64) (pe_f0 G__law_listed hr (by decide) (by rfl) T.g__law_listed pass0) (pe_lc (own := [("k", 1)]) (g := gName 1) (tt := tYes) rfl sc_law.nd (pi_range1 (by rfl) T.b_range (pa_cons pe_int pa_nil)) (blkOk_by (N := ["script", "k", "tape", "memory", "cell", "empty", "value", "device", "block", "wrong", "other"]) (sc := defScope s_law) (by decide +kernel)) (fun _ _ _ _ _ => (pg_name (i := 1) sc_law.nd rfl (Or.inl rfl))) (fun _ _ _ _ _ => pts_nil) (fun _ _ _ _ _ => (pv 1))) (nomark _))))) (pss_one (ps_ret pe_bl)) pss_nil)
    (pss_cons (ps_set (i := 2) sc_law.nd rfl (Or.inl rfl) (pe_f G__law_tape hr (by decide) (by rfl) T.g__law_tape pass0 (pa_cons (pv 0) pa_nil)))
    (pss_cons (ps_set (i := 3) sc_law.nd rfl (Or.inl rfl) (pe_k0 G_Memory___init__ hr (by decide) (by rfl) T.g_Memory T.mk_Memory pass0))
    (pss_cons (ps_for PassesOwn.never rfl (pi_range1 (by rfl) T.b_range (pa_cons pe_int pa_nil)) (pg_name (i := 4) sc_law.nd rfl (Or.inl rfl)) (pss_cons (ps_set (i := 5) sc_law.nd rfl (Or.inl rfl) (pe_or (pe_cmpR op_lt (pv 4) pe_int (nomark _)) (pe_or (pe_chain op_le op_lt pe_int (pv 4) pe_int) (pe_one (pe_chain op_le op_lt pe_int (pv 4) pe_int)))))
    (pss_cons (ps_set (i := 6) sc_law.nd rfl (Or.inl rfl) (pe_m G_Memory_peek hr (by decide) T.cl_Memory T.me_Memory_peek passL (pv 3) (pa_cons (pv 4) pa_nil)))
    (pss_one (ps_if (PW.pt (pw_or (PW.pt (pw_and (pt_val (pv 5)) (pw_and1 (pt_cmp (pc_notN (pv 6)))))) (pw_or1 (PW.pt (pw_and (pt_not (pt_val (pv 5))) (pw_and1 (PW.pt (pw_or (pt_cmp (pc_isN (pv 6))) (pw_or (pt_val (pe_callB call_isi (by rfl) T.b_isinstance (by decide +kernel) (pa_cons (pv 6) (pa_cons (pe_bltn (v := .ty "bool") (by rfl) T.b_bool (by decide +kernel) rfl) pa_nil)))) (pw_or1 (pt_cmpR (op_neD hu64) (pv 6) pe_int (nomark _)))))))))))) (pss_one (ps_ret pe_bl)) pss_nil)))))
    (pss_cons (ps_for PassesOwn.never rfl (pi_range1 (by rfl) T.b_range (pa_cons pe_int pa_nil)) (pg_name (i := 7) sc_law.nd rfl (Or.inl rfl)) (pss_cons (ps_if (PW.pt (pw_or (pt_cmpR (op_neD hu64) (pe_m G_Memory_journal hr (by decide) T.cl_Memory T.me_Memory_journal passL (pv 3) (pa_cons (pv 7) pa_nil)) (pe_tup pa_nil) (nomark _)) (pw_or (pt_cmpR (op_neD hu64) (pe_m0 G_Guard_entries hr (by decide) T.cl_Guard T.me_Guard_entries pass0 (pe_ix ix_list (pe_fld (pv 3) rfl) (pv 7) (fun _ _ => rfl))) (pe_lst pa_nil) (nomark _)) (pw_or1 (pt_cmpR (op_neD hu64) (pe_m0 G_Guard_queue hr (by decide) T.cl_Guard T.me_Guard_queue pass0 (pe_ix ix_list (pe_fld (pv 3) rfl) (pv 7) (fun _ _ => rfl))) (pe_lst pa_nil) (nomark _)))))) (pss_one (ps_ret pe_bl)) pss_nil)
    (pss_one (ps_for PassesOwn.never rfl (pi_range1 (by rfl) T.b_range (pa_cons pe_int pa_nil)) (pg_name (i := 8) sc_law.nd rfl (Or.inl rfl)) (pss_one (ps_if (pt_cmpR (op_neD hu64) (pe_m G_Memory_block hr (by decide) T.cl_Memory T.me_Memory_block passL (pv 3) (pa_cons (pv 7) (pa_cons (pv 8) pa_nil))) (pe_tup (pa_cons pe_int (pa_cons pe_int (pa_cons pe_int (pa_cons pe_int pa_nil))))) (nomark _)) (pss_one (ps_ret pe_bl)) pss_nil))))))
    (pss_cons (ps_for PassesOwn.never rfl (pi_range1 (by rfl) T.b_range (pa_cons (pe_callB (call_min2 rfl) (by rfl) T.b_min (by decide +kernel) (pa_cons pe_int (pa_cons (pe_callB call_len_seq (by rfl) T.b_len PySem.boot_len (pa_cons (pv 2) pa_nil)) pa_nil))) pa_nil)) (pg_name (i := 1) sc_law.nd rfl (Or.inl rfl)) (pss_cons (ps_set (i := 9) sc_law.nd rfl (Or.inl rfl) (pe_ix ix_list (pe_lst (pa_cons pe_int (pa_cons (pe_un un_neg pe_int) (pa_cons (pe_op op_add pe_int (pe_f G__law_at hr (by decide) (by rfl) T.g__law_at pass0 (pa_cons (pv 2) (pa_cons (pv 1) pa_nil)))) (pa_cons pe_non pa_nil))))) (pe_op op_mod (pe_f G__law_at hr (by decide) (by rfl) T.g__law_at pass0 (pa_cons (pv 2) (pa_cons (pv 1) pa_nil))) pe_int) (fun _ _ => rfl)))
    (pss_cons (ps_if (pt_cmpR (op_neD hu64) (pe_f G__law_told hr (by decide) (by rfl) T.g__law_told pass0 (pa_cons (pv 3) (pa_cons pe_str (pa_cons (pv 9) (pa_cons pe_int pa_nil))))) (pe_lst (pa_cons pe_str (pa_cons pe_bl pa_nil))) (nomark _)) (pss_one (ps_ret pe_bl)) pss_nil)
    (pss_cons (ps_set (i := 10) sc_law.nd rfl (Or.inl rfl) (pe_ix ix_list (pe_lst (pa_cons pe_int (pa_cons (pe_un un_neg pe_int) (pa_cons (pe_op op_add pe_int (pe_f G__law_at hr (by decide) (by rfl) T.g__law_at pass0 (pa_cons (pv 2) (pa_cons (pv 1) pa_nil)))) pa_nil)))) (pe_op op_mod (pe_f G__law_at hr (by decide) (by rfl) T.g__law_at pass0 (pa_cons (pv 2) (pa_cons (pv 1) pa_nil))) pe_int) (fun _ _ => rfl)))
    (pss_cons (ps_if (pt_cmpR (op_neD hu64) (pe_f G__law_told hr (by decide) (by rfl) T.g__law_told pass0 (pa_cons (pv 3) (pa_cons pe_str (pa_cons (pv 10) (pa_cons pe_int pa_nil))))) (pe_lst (pa_cons pe_str (pa_cons pe_bl pa_nil))) (nomark _)) (pss_one (ps_ret pe_bl)) pss_nil)
    (pss_cons (ps_if (pt_cmpR (op_neD hu64) (pe_f G__law_told hr (by decide) (by rfl) T.g__law_told pass0 (pa_cons (pv 3) (pa_cons pe_str (pa_cons (pv 10) (pa_cons pe_int pa_nil))))) (pe_lst (pa_cons pe_str (pa_cons pe_bl pa_nil))) (nomark _)) (pss_one (ps_ret pe_bl)) pss_nil)
    (pss_one (ps_if (pt_cmpR (op_neD hu64) (pe_f G__law_told hr (by decide) (by rfl) T.g__law_told pass0 (pa_cons (pv 3) (pa_cons pe_str (pa_cons (pe_op op_mod (pv 1) pe_int) (pa_cons (pe_ix ix_list (pe_lst (pa_cons pe_int (pa_cons (pe_un un_neg pe_int) (pa_cons (pe_op op_add pe_int (pv 1)) pa_nil)))) (pe_op op_mod (pv 1) pe_int) (fun _ _ => rfl)) pa_nil))))) (pe_lst (pa_cons pe_str (pa_cons pe_bl pa_nil))) (nomark _)) (pss_one (ps_ret pe_bl)) pss_nil))))))))
    (pss_one (ps_ret (pe_and (pe_cmpR op_eq (pe_fld (pv 3) rfl) pe_int (nomark _)) (pe_one (pe_cmpR (op_eqD hu64) (pe_m0 G_Memory_log hr (by decide) T.cl_Memory T.me_Memory_log pass0 (pv 3)) (pe_lst pa_nil) (nomark _)))))))))))), ?_⟩
    -- the consts, the list of the cells
    refine ⟨(by show 5 ≤ sizeLine; decide), fun p1 h1 => ⟨(by show 5 ≤ sizeLine; decide), fun p2 h2 => ?_⟩⟩
    have s1 := Same.new (o := HO.tup [V.int 2, .int 6, .int 6, .int 4, .int 8]) (Same.refl H) h1
    have s2 := Same.new (o := HO.tup [V.int 2, .int 6, .int 6, .int 4, .int 8]) s1 (s1.free h2)
    obtain ⟨n21, _⟩ := free_upd h2
    have five : ∀ {p : Addr} {H' : Hp}, H' p = some (.tup [V.int 2, .int 6, .int 6, .int 4, .int 8]) → Dp K H' (.ref p) dFive := fun e => .tup (SqT.of e) (.cons (.int _) (.cons (.int _) (.cons (.int _) (.cons (.int _) (.cons (.int _) .nil)))))
    refine ne_same (d := dFive) (e := dFive) (five (by rw [upd_ne n21.symm, upd_same])) (five upd_same) (by decide +kernel) (by decide +kernel) (by decide +kernel) ?_
    refine ⟨rfl, fun p3 H3 hp3 s3 e3 => ⟨70, rfl, by decide, by decide, fun D hD => ?_⟩⟩
    refine lc_range (n := 70) (fun j H4 => H4 D = some (.lst (rng j)) ∧ Same H3 H4) ⟨upd_same, Same.new (Same.refl H3) hD⟩ ?_ ?_
    · rintro j H4 hj ⟨e4, s4⟩
      refine ⟨rfl, _, rfl, _, e4, ?_, ?_, fun b o hb => ?_⟩
      · rw [rng_len]
        exact Nat.lt_trans hj (by decide)
      · rw [upd_same]
        unfold rng
        rw [List.range_succ, List.map_append, Int.zero_add]
        rfl
      · rw [upd_ne (ne_of_none hb hD)]
        exact s4 b o hb
    rintro H4 ⟨e4, s4⟩
    refine ne_same (d := .list (dRng 70)) (e := .list (dRng 70)) (.lst (SqL.of (s4 _ _ e3)) (dp_ints _)) (.lst (SqL.of e4) (dp_ints _)) (by decide +kernel) (by decide +kernel) (by decide +kernel) ?_
    have sH4 : Same H H4 := fun b o hb => s4 b o (s3 b o (s2 b o hb))
    -- the tape, the memory
    refine ⟨_, rfl, a, ns, rfl, Same.seq sH4 hS, hlen, fun tp H5 ts htp s5 e5 hT => ?_⟩
    intro m dm hm hdm nmd
    refine ⟨m, dm, rfl, upd_same, by rw [upd_ne nmd, upd_same], nmd.symm, fun L H6 z t eL1 eL2 MA fr hz ht kp => ⟨rfl, ?_⟩⟩
    subst eL1 eL2
    have s6 : Same H5 H6 := fun b o hb => by
      refine kp b o ?_ (ne_of_none hb hm)
      rw [upd_ne (ne_of_none hb hm), upd_ne (ne_of_none hb hdm)]
      exact hb
    have e6 := s6 _ _ e5
    -- for cell in range(70)
    refine ⟨70, rfl, by decide, by decide, for_range (n := 70) (fun i σ H1 => ∃ x1 x4 x5 x6 x7 x8 x9 x10, σ = [some (.ref a), x1, some (.ref tp), some (.ref L.m), x4, x5, x6, x7, x8, x9, x10] ∧ Same H6 H1) ?_ ?_ ?_⟩
    · exact ⟨_, _, _, _, _, _, _, _, rfl, Same.refl H6⟩
    · rintro i σ H1 hi ⟨x1, x4, x5, x6, x7, x8, x9, x10, rfl, s7⟩
      have MA1 := MA.same s7
      refine val_orV (a := decide ((0 : Int) + (i : Int) < 8)) (val_i0 (val_var rfl) val_c) (val_orV (val_chain val_c (val_var rfl) val_c) (val_chain val_c (val_var rfl) val_c)) _ ?_
      have hx := cells0_at i hi
      refine ⟨_, rfl, L.m, L.d, _, rfl, MA1.om, mNo, _, rfl, L, _, _, _, rfl, MA1, .int _, fun j x hv hx' => ?_, fun he => ?_⟩
      · have ej : j = i := by
          injection hv with hv
          omega
        subst ej
        have hx2 : some x = some (if j < 8 ∨ (24 ≤ j ∧ j < 32) ∨ (56 ≤ j ∧ j < 68) then V.non else V.int 0) := hx'.symm.trans hx
        have hx3 := Option.some.inj hx2
        have eb : (decide ((0 : Int) + (j : Int) < 8) || ((decide ((24 : Int) ≤ 0 + (j : Int)) && decide ((0 : Int) + (j : Int) < 32)) || (decide ((56 : Int) ≤ 0 + (j : Int)) && decide ((0 : Int) + (j : Int) < 68)))) = decide (j < 8 ∨ (24 ≤ j ∧ j < 32) ∨ (56 ≤ j ∧ j < 68)) := by
          rw [Bool.eq_iff_iff]
          simp only [Bool.or_eq_true, Bool.and_eq_true, decide_eq_true_eq]
          omega
        by_cases c : j < 8 ∨ (24 ≤ j ∧ j < 32) ∨ (56 ≤ j ∧ j < 68)
        · rw [if_pos c] at hx3
          rw [decide_eq_true c] at eb
          subst hx3
          refine ⟨_, rfl, true, congrArg V.bl eb, _, rfl, _, rfl, ?_⟩
          refine ⟨_, rfl, true, congrArg V.bl eb, ?_⟩
          exact ⟨_, _, _, _, _, _, _, _, rfl, s7⟩
        · rw [if_neg c] at hx3
          rw [decide_eq_false c] at eb
          subst hx3
          refine ⟨_, rfl, false, congrArg V.bl eb, _, rfl, false, congrArg V.bl eb, _, rfl, _, rfl, ?_⟩
          refine ⟨_, rfl, _, _, _, _, false, rfl, .ty _, .base (.int _), kit_ty (by decide +kernel), _, rfl, ?_⟩
          refine ⟨_, rfl, ?_⟩
          dsimp only [tC]
          refine ne_same (d := .int 0) (e := .int 0) (.int _) (.int _) (by decide +kernel) (by decide +kernel) (by decide +kernel) ?_
          exact ⟨_, _, _, _, _, _, _, _, rfl, s7⟩
      · have q : isNum (.int (0 + (i : Int))) ((M0 z t).cells.length : Int) = true := by
          rw [Int.zero_add]
          exact isNum_nat (by rw [show (M0 z t).cells.length = 70 from cells0_len]; exact hi)
        rw [q] at he
        cases he
    rintro σ H1 ⟨x1, x4, x5, x6, x7, x8, x9, x10, rfl, s7⟩
    -- for device in range(2)
    refine ⟨2, rfl, by decide, by decide, for_range (n := 2) (fun i σ H1 => ∃ x1 x4 x5 x6 x7 x8 x9 x10, σ = [some (.ref a), x1, some (.ref tp), some (.ref L.m), x4, x5, x6, x7, x8, x9, x10] ∧ Same H6 H1) ?_ ?_ ?_⟩
    · exact ⟨_, _, _, _, _, _, _, _, rfl, s7⟩
    · rintro d σ H1 hd ⟨x1, x4, x5, x6, x7, x8, x9, x10, rfl, s7⟩
      have MA1 := MA.same s7
      have GA := MA1.gu d hd
      have ed : (0 : Int) + (d : Int) = (d : Int) := Int.zero_add _
      have hgs : ∀ H', Same H1 H' → SqL K H' L.aG [V.ref (L.gs 0).g, V.ref (L.gs 1).g] := fun H' s => SqL.of (s _ _ MA1.og)
      have hgi : atI [V.ref (L.gs 0).g, V.ref (L.gs 1).g] ((0 : Int) + (d : Int)) = some (V.ref (L.gs d).g) := by
        rw [ed]
        refine atI_n ?_
        rcases lt2 hd with rfl | rfl <;> rfl
      -- the journal
      refine ⟨_, rfl, L.m, L.d, _, rfl, MA1.om, mNo, _, rfl, L, _, _, _, rfl, MA1, .int _, rfl, fun j x hv hx => ?_, fun he => ?_⟩
      · have ex : x = V.ref t := by
          have hj : j < 2 := (List.getElem?_eq_some_iff.mp hx).1
          rcases lt2 hj with rfl | rfl <;> exact (Option.some.inj hx).symm
        subst ex
        refine ⟨by decide, fun p hp => ?_⟩
        have q1 := Same.new (o := HO.tup []) (Same.refl H1) hp
        refine ne_same (d := .tuple []) (e := .tuple []) (.tup (SqT.of (q1 _ _ (s7 _ _ ht))) .nil) (.tup (SqT.of upd_same) .nil) (by decide +kernel) (by decide +kernel) (by decide +kernel) ?_
        -- the entries
        refine ⟨_, rfl, L.m, CM K, L.d, _, _, rfl, q1 _ _ MA1.om, T.cl_Memory, T.na_Memory_guards, lm_g, _, rfl, L.aG, _, _, _, rfl, rfl, hgs _ q1, hgi, ?_⟩
        refine ⟨(L.gs d).g, (L.gs d).d, _, rfl, q1 _ _ GA.og, gNo, L.gs d, G0, [], rfl, (MA1.same q1).gu d hd, rfl, by decide, fun pe H8 ys tts hys _ hpe s8 e8 pt => ?_⟩
        have ey : ys = [] := hys.eq_nil
        subst ey
        cases pt
        refine ⟨by decide, fun p' hp' => ?_⟩
        have q2 : Same H1 (upd H8 p' (.lst [])) := Same.new (fun b o hb => s8 b o (q1 b o hb)) (Same.free (fun b o hb => s8 b o (q1 b o hb)) hp')
        have npe : pe ≠ p' := ne_of_none e8 hp'
        refine ne_same (d := .list []) (e := .list []) (.lst (SqL.of (by rw [upd_ne npe]; exact e8)) .nil) (.lst (SqL.of upd_same) .nil) (by decide +kernel) (by decide +kernel) (by decide +kernel) ?_
        -- the queue
        refine ⟨_, rfl, L.m, CM K, L.d, _, _, rfl, q2 _ _ MA1.om, T.cl_Memory, T.na_Memory_guards, lm_g, _, rfl, L.aG, _, _, _, rfl, rfl, hgs _ q2, hgi, ?_⟩
        refine ⟨(L.gs d).g, (L.gs d).d, _, rfl, q2 _ _ GA.og, gNo, L.gs d, G0, rfl, (MA1.same q2).gu d hd, fun pq hpq => ?_⟩
        refine ⟨by decide, fun p' hp' => ?_⟩
        obtain ⟨npq, _⟩ := free_upd hp'
        have q3 := Same.new (o := HO.lst G0.que) q2 (q2.free hpq)
        have q4 := Same.new (o := HO.lst []) q3 (q3.free hp')
        refine ne_same (d := .list []) (e := .list []) (.lst (SqL.of (by rw [upd_ne npq.symm, upd_same]; rfl)) .nil) (.lst (SqL.of upd_same) .nil) (by decide +kernel) (by decide +kernel) (by decide +kernel) ?_
        -- the blocks
        refine ⟨8, rfl, by decide, by decide, for_range (n := 8) (fun i σ H2 => ∃ x1 x4 x5 x6 x8 x9 x10, σ = [some (.ref a), x1, some (.ref tp), some (.ref L.m), x4, x5, x6, some (.int (0 + (d : Int))), x8, x9, x10] ∧ Same H6 H2) ?_ ?_ ?_⟩
        · exact ⟨_, _, _, _, _, _, _, rfl, fun b o hb => q4 b o (s7 b o hb)⟩
        · rintro i σ H2 hi ⟨x1, x4, x5, x6, x8, x9, x10, rfl, s9⟩
          have MA2 := MA.same s9
          refine ⟨_, rfl, L.m, L.d, _, rfl, MA2.om, mNo, _, rfl, _, rfl, L, _, _, _, _, _, rfl, MA2, .int _, .int _, fun _ _ => List.length_replicate, fun d' j x hd' hv hu' hx => ?_, fun he => ?_⟩
          · have ex : x = V.ref (z d') := by
              have hx2 : (List.replicate 8 (V.ref (z d')))[j]? = some x := hx
              obtain ⟨hj, e⟩ := List.getElem?_eq_some_iff.mp hx2
              rw [List.getElem_replicate] at e
              exact e.symm
            subst ex
            refine ⟨(by show 4 ≤ sizeLine; decide), fun p hp => ?_⟩
            have q5 := Same.new (o := HO.tup [V.int 0, .int 0, .int 0, .int 0]) (Same.refl H2) hp
            have zer : ∀ {p : Addr} {H' : Hp}, H' p = some (.tup [V.int 0, .int 0, .int 0, .int 0]) → Dp K H' (.ref p) dZero := fun e => .tup (SqT.of e) (.cons (.int _) (.cons (.int _) (.cons (.int _) (.cons (.int _) .nil))))
            refine ne_same (d := dZero) (e := dZero) (zer (q5 _ _ (s9 _ _ (hz d' hd')))) (zer upd_same) (by decide +kernel) (by decide +kernel) (by decide +kernel) ?_
            exact ⟨_, _, _, _, _, _, _, rfl, fun b o hb => q5 b o (s9 b o hb)⟩
          · rw [ed, show isNum (.int (d : Int)) 2 = true from isNum_nat (n := 2) hd, Int.zero_add, show isNum (.int (i : Int)) 8 = true from isNum_nat (n := 8) hi] at he
            rcases he with he | he <;> cases he
        · rintro σ H2 ⟨x1, x4, x5, x6, x8, x9, x10, rfl, s9⟩
          exact ⟨_, _, _, _, _, _, _, _, rfl, s9⟩
      · rw [ed, show isNum (.int (d : Int)) 2 = true from isNum_nat (n := 2) hd] at he
        cases he
    rintro σ H1 ⟨x1, x4, x5, x6, x7, x8, x9, x10, rfl, s7⟩
    -- for k in range(min(20, len(tape)))
    have eL : ∀ {H'}, Same H6 H' → SqL K H' tp (ts.map V.int) := fun s => SqL.of (s _ _ e6)
    refine ⟨_, rfl, tp, _, rfl, .inl (eL s7), 20, _, rfl, ?_⟩
    have hle : ((ts.map V.int).length : Int) ≤ 3780 := by
      rw [List.length_map]
      exact Int.ofNat_le.mpr hT.1
    generalize hn : (if (((ts.map V.int).length : Nat) : Int) < 20 then (((ts.map V.int).length : Nat) : Int) else 20) = n
    have hn1 : 0 ≤ n ∧ n ≤ 20 := by
      subst hn
      split <;> omega
    refine ⟨n, rfl, by omega, by omega, for_range (n := n.toNat) (fun i σ H1 => ∃ x1 x4 x5 x6 x7 x8 x9 x10, σ = [some (.ref a), x1, some (.ref tp), some (.ref L.m), x4, x5, x6, x7, x8, x9, x10] ∧ Same H6 H1) ?_ ?_ ?_⟩
    · exact ⟨_, _, _, _, _, _, _, _, rfl, s7⟩
    · rintro i σ H1 hi ⟨x1, x4, x5, x6, x7, x8, x9, x10, rfl, s7⟩
      obtain ⟨t0, t1⟩ := tape_at hT i
      have ek : (0 : Int) + (i : Int) = (i : Int) := Int.zero_add _
      rw [show (V.int (0 + (i : Int))) = V.int (i : Int) from congrArg V.int ek]
      -- wrong
      obtain ⟨v1, m1, a1⟩ := pick4 t0 [V.int 70, .int (-1), .int (70 + ts[i]?.getD 0), .non] rfl
      obtain ⟨N1, y1, w1⟩ := wrongP t0 m1
      refine ⟨_, rfl, _, rfl, _, rfl, tp, ts, i, rfl, eL s7, _, _, rfl, rfl, (by show 4 ≤ sizeLine; decide), fun p1 f1 => ?_⟩
      have r1 := Same.new (o := HO.lst [V.int 70, .int (-1), .int (70 + ts[i]?.getD 0), .non]) s7 (s7.free f1)
      refine ⟨_, rfl, _, rfl, tp, ts, i, rfl, eL r1, _, _, rfl, rfl, (by show (0 : Int) < 4; decide), p1, _, _, v1, rfl, rfl, SqL.of upd_same, a1, ?_⟩
      refine ⟨_, rfl, _, rfl, L, _, _, _, _, _, _, rfl, MA.same r1, y1 _ _, (.int 0), (.inl ⟨rfl, w1⟩), fun p2 f2 => ⟨(by show 2 ≤ sizeLine; decide), fun p3 f3 => ?_⟩⟩
      have r2 := Same.new (o := HO.lst [V.str "refused", .bl true]) r1 (r1.free f2)
      have r3 := Same.new (o := HO.lst [V.str "refused", .bl true]) r2 (r2.free f3)
      refine told_same (by rw [upd_ne (free_upd f3).1.symm, upd_same]) upd_same ?_
      -- other
      obtain ⟨v2, m2, a2⟩ := pick3 t0 [V.int 2, .int (-1), .int (2 + ts[i]?.getD 0)] rfl
      obtain ⟨N2, y2, w2⟩ := wrongD t0 m2
      refine ⟨_, rfl, _, rfl, _, rfl, tp, ts, i, rfl, eL r3, _, _, rfl, rfl, (by show 3 ≤ sizeLine; decide), fun p4 f4 => ?_⟩
      have r4 := Same.new (o := HO.lst [V.int 2, .int (-1), .int (2 + ts[i]?.getD 0)]) r3 (r3.free f4)
      refine ⟨_, rfl, _, rfl, tp, ts, i, rfl, eL r4, _, _, rfl, rfl, (by show (0 : Int) < 3; decide), p4, _, _, v2, rfl, rfl, SqL.of upd_same, a2, ?_⟩
      refine ⟨_, rfl, _, rfl, L, _, _, _, _, _, _, rfl, MA.same r4, y2 _ _, (.int 0), (.inr (.inl ⟨rfl, rfl, w2⟩)), fun p5 f5 => ⟨(by show 2 ≤ sizeLine; decide), fun p6 f6 => ?_⟩⟩
      have r5 := Same.new (o := HO.lst [V.str "refused", .bl true]) r4 (r4.free f5)
      have r6 := Same.new (o := HO.lst [V.str "refused", .bl true]) r5 (r5.free f6)
      refine told_same (by rw [upd_ne (free_upd f6).1.symm, upd_same]) upd_same ?_
      have h8 : ∀ d, d < 2 → ((M0 z t).bl d).length = 8 := fun _ _ => List.length_replicate
      refine ⟨_, rfl, _, rfl, L, _, _, _, _, _, _, rfl, MA.same r6, y2 _ _, (.int 0), (.inr (.inr ⟨rfl, h8, .inl w2⟩)), fun p7 f7 => ⟨(by show 2 ≤ sizeLine; decide), fun p8 f8 => ?_⟩⟩
      have r7 := Same.new (o := HO.lst [V.str "refused", .bl true]) r6 (r6.free f7)
      have r8 := Same.new (o := HO.lst [V.str "refused", .bl true]) r7 (r7.free f8)
      refine told_same (by rw [upd_ne (free_upd f8).1.symm, upd_same]) upd_same ?_
      -- the last one
      obtain ⟨v3, m3, a3⟩ := pick3 (t := (i : Int)) (by omega) [V.int 8, .int (-1), .int (9 + (i : Int))] rfl
      obtain ⟨N3, y3, w3⟩ := wrongB (t := (i : Int)) (by omega) m3
      refine ⟨_, rfl, _, rfl, _, _, rfl, rfl, (by show (0 : Int) < 2; decide), _, rfl, _, rfl, _, _, rfl, rfl, (by show 3 ≤ sizeLine; decide), fun p9 f9 => ?_⟩
      have r9 := Same.new (o := HO.lst [V.int 8, .int (-1), .int (9 + (i : Int))]) r8 (r8.free f9)
      refine ⟨_, rfl, _, _, rfl, rfl, (by show (0 : Int) < 3; decide), p9, _, _, v3, rfl, rfl, SqL.of upd_same, a3, ?_⟩
      refine ⟨L, _, _, _, _, _, _, rfl, MA.same r9, .int _, y3 _ _, .inr (.inr ⟨rfl, h8, .inr w3⟩), fun p10 f10 => ⟨(by show 2 ≤ sizeLine; decide), fun p11 f11 => ?_⟩⟩
      have r10 := Same.new (o := HO.lst [V.str "refused", .bl true]) r9 (r9.free f10)
      have r11 := Same.new (o := HO.lst [V.str "refused", .bl true]) r10 (r10.free f11)
      refine told_same (by rw [upd_ne (free_upd f11).1.symm, upd_same]) upd_same ?_
      exact ⟨_, _, _, _, _, _, _, _, rfl, r11⟩
    -- the end
    rintro σ H1 ⟨x1, x4, x5, x6, x7, x8, x9, x10, rfl, s7⟩
    have MA1 := MA.same s7
    refine ⟨_, rfl, L.m, CM K, L.d, _, _, rfl, MA1.om, T.cl_Memory, T.na_Memory_count, lm_c, rfl, true, rfl, ?_⟩
    refine ⟨_, rfl, L.m, L.d, _, rfl, MA1.om, mNo, L, _, rfl, MA1, fun p hp => ⟨by decide, fun p' hp' => ?_⟩⟩
    refine eq_same (d := .list []) (e := .list []) (.lst (SqL.of (by rw [upd_ne (free_upd hp').1.symm, upd_same]; rfl)) .nil) (.lst (SqL.of upd_same) .nil) (by decide +kernel) (by decide +kernel) (by decide +kernel) ?_
    exact k _
end
end Rb
namespace Rb
open PySem PySem.Spec PyProof.Rows L2
abbrev R : PySem.W.OpenRow := PySem.W.OpenLaw.row PySem.Challenge.rw_ringbound_k01_cells
abbrev hk : PySem.W.Hook := hookR 4 fa fn ts exs
def ob (s : PySem.W.SharedT) : AlR := obsR 4 fa fn ts exs (HandSHeadRun.getT s)
theorem ob_eq (s : PySem.W.SharedT) : ob s = hk.obs s.abs := obsR_eq (HandSHeadRun.getT_eq s)
theorem run0 (w : World) : HandSHeadRun.RunEq R (PySem.W.view R.prog [lawAt]) hk ob 4000 loose (w.withFollow "special-get-raises" false) := by
  intro os
  kernel_rfl
theorem run1 (w : World) : HandSHeadRun.RunEq R (PySem.W.view R.prog [lawAt]) hk ob 4000 loose (w.withFollow "special-get-raises" true) := by
  intro os
  kernel_rfl
theorem run (w : World) : HandSHeadRun.RunEq R (PySem.W.view R.prog [lawAt]) hk ob 4000 loose w := PySem.W.byRow2 "special-get-raises" run0 run1 w
end Rb
namespace Rb
open PySem PySem.Spec PyProof.Rows L2
theorem facts {P : Program} {w : World} {K : PySem.W.Frag} {h : Heap} {mg : Str → Option Value} {f : Addr} (X : K.In h) (G : h.Ns mainGlobals mg) (hfa : mg ("law" : Str) = some (.ref f)) (c : SaysR fa fn ts exs w K) :
    ∃ fd : FuncData, (∀ (s : Shared) (v : Value), BindsTo s fd ⟨[v], []⟩ [("script", v)]) ∧ ∀ base : Heap, K.In base → base.Ns mainGlobals mg → FnOk P w K mg base CX0 8 f fd ["script"] (spLaw K) := by
  have T := top_of X G c
  obtain ⟨fd, F⟩ := T.d_law
  have e := hfa.symm.trans T.g_law
  cases e
  have b := FunD.bindsA (ps := ["script"]) F fun _ _ _ _ _ _ us hl => match us, hl with | [_], _ => rfl
  exact ⟨fd, fun s v => b s [v] rfl, fun base _ _ => ok_law T F⟩
end Rb
open PySem PySem.W PySem.Calls PyProof.Rows
theorem PySem.Challenge.cw_ringbound_k01_cells_holds : PySem.Challenge.rw_ringbound_k01_cells.Holds := by
  w_on; o_law
  refine HandSHeadRun.head_any (r := OpenLaw.row PySem.Challenge.rw_ringbound_k01_cells) (q := view (OpenLaw.row PySem.Challenge.rw_ringbound_k01_cells).prog [Rb.lawAt]) (H := Rb.hk) (ob := Rb.ob) (M := 4000) (loose := Rb.loose)
    (d := HandSHeadRun.topDef (OpenLaw.row PySem.Challenge.rw_ringbound_k01_cells).prog Rb.lawAt) (kwd := []) Rb.ob_eq
    (by kernel_rfl) (fun s => by kernel_rfl) Rb.run (by kernel_rfl) (by kernel_rfl) (by kernel_rfl) (by rfl) (by first | assumption | decide +kernel) (by decide +kernel) ⟨rfl, rfl, rfl, rfl, rfl, by decide +kernel⟩ ?hw ?hc
  case hw => w_witness2
  case hc =>
    refine L2.walk_ofE (l := PySem.Challenge.rw_ringbound_k01_cells) (n := 63) (k := 8) (x := "script") (CX := L2.CX0) rfl (by decide) (by kernel_rfl) ⟨rfl, by decide, by decide⟩ ?F (fun _ _ _ _ z => z)
    intro w mg fa h Y G hmg0
    obtain ⟨K, KX, c⟩ := Y
    have hmg : mg ("law" : PySem.Str) = some (.ref fa) := by
      have e : (HandSHeadRun.topDef (OpenLaw.row PySem.Challenge.rw_ringbound_k01_cells).prog Rb.lawAt).name = ("law" : PySem.Str) := by kernel_rfl
      rw [← e]
      exact hmg0
    obtain ⟨fd, hb, hF⟩ := Rb.facts (P := (PySem.Challenge.rw_ringbound_k01_cells).prog) (w := w) KX G hmg c
    exact ⟨K, fd, Rb.spLaw K, KX, hb, fun H a ns hl _ hS => ⟨a, ns, rfl, hS, hl, fun _ => rfl⟩, hF⟩
