import PyProof.Rows.All
import Wide.All
import OpenK.AllK
import Wide.FinOn
import HandS.ForMost
import HandS.Exc
import HandS.WordsExc
import HandS.Codes
import HandS.IsInst
import HandS.Style
import HandS.TupAny
import HandS.TupLe
import HandS.Gcd
import HandS.Zip
import HandS.Deep
import HandS.Wide
import HandS.WideBits
import HandS.ExcInit
import HandS.ExcField
import HandS.TryMany
import HandS.Lambda
import HandS.EndTab
import HandS.Defaults
import HandS.HeadHook1
import HandS.HeadHook2
import HandS.HeadHook3
import HandS.HeadHook4
import KE.KExcIs
import PyProof.ReprRoads
import PyProof.ReprReads
import HandS.Base
import HandS.Call
import HandS.List
import HandS.Iter
import KE.GoesEnum
import KE.KMathG
import HandS.Head0
import HandS.Head1
import HandS.Head2
import HandS.Head3
import HandS.HeadEnd
import HandS.HeadWalk
import HandS.Comp
import HandS.Sort
import HandS.More
import HandS.CallLocal
import HandS.Rev
import HandS.Small
import HandS.Dict
import HandS.Text
import PySem.Challenge.RW_paperbest_k63_whole_least_ends_of_benche
import KE.BitLaws
import HandS.TupMul
import PyProof.Rows.StrMul
import HandS.RaiseMore
import KE.KStateDown
import KE.KNestM
set_option Elab.async false
set_option linter.all false
set_option maxRecDepth 100000
set_option maxHeartbeats 8000000
/-! What the proofs of several laws share: own errors, isinstance of them, calls that may raise or go by keywords, try with named clauses, tables of code objects, the source of draws. -/
namespace Own
open PySem PySem.Spec PyProof.Rows L2
open C8 (Cal pe_c pe_gc pss_cut)
/-! ### own errors -/
/-- what the text says of an error's class: its name x, its class object at C, its __init__ at fI -/
structure ExT (K : PySem.W.Frag) (mg : Str → Option Value) (x : Str) (C fI : Addr) : Prop where
  oex : OexC K C
  iC : PySem.W.findIn K (.ref C) "__init__" = some (some (.ref fI))
  tI : PySem.W.typeIn K (.ref fI) = some (.type "function")
  gC : mg x = some (.ref C)
  xf : XfC K C
  noW : PySem.W.findIn K (.ref C) "word" = some none
/-- the fresh exception at a gets its word y: its dict stands at d -/
def exoHp (H : Hp) (a C d : Addr) (y : V) : Hp := upd (upd H d (exd d [("word", y)])) a (exo a C (some d))
def spInit (K : PySem.W.Frag) : Sp := fun vs H Q _ => ∃ (a C : Addr) (y : V), vs = [.ref a, y] ∧ OexC K C ∧ PySem.W.findIn K (.ref C) "word" = some none ∧ H a = some (exo a C none) ∧ ∀ d, H d = none → d ≠ a → Q .non (exoHp H a C d y)
/-- the class x at C with its __init__ -/
structure ExK (P : Program) (w : World) (K : PySem.W.Frag) (mg : Str → Option Value) (base : Heap) (x : Str) (C : Addr) : Prop where
  ex : ∃ (fI : Addr) (fd : FuncData), ExT K mg x C fI ∧ FnOk P w K mg base CX0 1 fI fd ["self", "word"] (spInit K) ∧ Binds K fd ["self", "word"] []
theorem ExK.T {P : Program} {w : World} {K : PySem.W.Frag} {mg : Str → Option Value} {base : Heap} {x : Str} {C : Addr} (c : ExK P w K mg base x C) : ∃ fI, ExT K mg x C fI := by
  obtain ⟨fI, fd, T, _⟩ := c.ex
  exact ⟨fI, T⟩
theorem ExK.oex {P : Program} {w : World} {K : PySem.W.Frag} {mg : Str → Option Value} {base : Heap} {x : Str} {C : Addr} (c : ExK P w K mg base x C) : OexC K C := c.T.choose_spec.oex
theorem ExK.noW {P : Program} {w : World} {K : PySem.W.Frag} {mg : Str → Option Value} {base : Heap} {x : Str} {C : Addr} (c : ExK P w K mg base x C) : PySem.W.findIn K (.ref C) "word" = some none := c.T.choose_spec.noW
/-- a new exception with the word y -/
def MkE (K : PySem.W.Frag) (C : Addr) (y : V) (H1 : Hp) (Q : XK) : Prop := [y].length ≤ 1000 ∧ ∀ a, H1 a = none → spInit K (.ref a :: ([y] ++ [])) (upd H1 a (exo a C none))
  (fun v H2 => v = .non ∧ ∃ (d : Addr) (fs : List (Str × V)), H2 a = some (exo a C (some d)) ∧ H2 d = some (exd d fs) ∧ H1 d = none ∧ Q (.ref C) (some d) (upd (del H2 a) d (.xd fs))) (fun _ _ _ => False)
theorem mkE_of {K : PySem.W.Frag} {C : Addr} {y : V} {H1 : Hp} {Q : XK} (T : OexC K C) (no : PySem.W.findIn K (.ref C) "word" = some none) (h : ∀ d H2, Same H1 H2 → H2 d = some (.xd [("word", y)]) → Q (.ref C) (some d) H2) : MkE K C y H1 Q := by
  refine ⟨show (1 : Nat) ≤ 1000 from by decide, fun a na => ⟨a, C, y, rfl, T, no, upd_same, fun d nd ne => ⟨rfl, d, _, upd_same, ?_, ?_, h d _ ?_ upd_same⟩⟩⟩
  · unfold exoHp
    rw [upd_ne ne, upd_same]
  · rw [upd_ne ne] at nd; exact nd
  · rw [upd_ne ne] at nd
    intro b o e
    have b1 : b ≠ d := ne_of_none e nd
    have b2 : b ≠ a := ne_of_none e na
    unfold exoHp
    rw [upd_ne b1, del_ne b2, upd_ne b2, upd_ne b1, upd_ne b2]
    exact e
def tNewE (K : PySem.W.Frag) (C : Addr) (te : TE) : L2.St → Hp → XK → Prop := fun σ H Q => te σ H fun y H1 => MkE K C y H1 Q
section
variable {X : Cx} {x : Str} {C : Addr} {e : Expr} {te : TE} {p pos pos2 : Pos} {j : Nat}
theorem pmk_new (c : ExK X.prog X.w X.K X.mg X.base x C) (hr : Room j X.A) (hk : 2 ≤ j) (hg : Gl X x) (he : PE X e te) (hdb : (x == ("__debug__" : Str)) = false := by decide)
    (hs : starEach [e] X.env = (false, eval e X.env) :: starEach [] X.env := by rfl) (hpl : (backTo pos (starEach [] X.env)).any (·.1) = false := by rfl) : PMk X (.Call (.Name x p) [e] [] pos) (tNewE X.K C te) := by
  obtain ⟨fI, fd, T, F, b⟩ := c.ex
  exact pmk_oex T.oex T.iC T.tI F (hr.mono hk) b .nil pass0 hg T.gC (pa_cons he pa_nil hs) hdb hs hpl
/-- raise x(e) -/
def tRaiseE (K : PySem.W.Frag) (W : WX) (C : Addr) (te : TE) : TS := fun _ σ H => tNewE K C te σ H fun cls d H' => W cls d σ H'
theorem ps_raiseE {W : WX} (hc : X.calm = true) (tk : L2.Takes X W) (c : ExK X.prog X.w X.K X.mg X.base x C) (hr : Room j X.A) (hk : 2 ≤ j) (hg : Gl X x) (he : PE X e te) (hdb : (x == ("__debug__" : Str)) = false := by decide)
    (hs : starEach [e] X.env = (false, eval e X.env) :: starEach [] X.env := by rfl) (hpl : (backTo pos (starEach [] X.env)).any (·.1) = false := by rfl) : PS X (.Raise (some (.Call (.Name x p) [e] [] pos)) none pos2) (tRaiseE X.K W C te) :=
  ps_raise hc tk (pmk_new c hr hk hg he hdb hs hpl)
end
/-! ### an exception as a value -/
/-- x(e) as a value -/
def tValE (K : PySem.W.Frag) (C : Addr) (te : TE) : TE := fun σ H Q => te σ H fun y H1 => ∀ a d H2, Same H1 H2 → H1 a = none → H1 d = none → H2 a = some (exo a C (some d)) → H2 d = some (exd d [("word", y)]) → Q (.ref a) H2
section
variable {X : Cx} {x : Str} {C : Addr} {e : Expr} {te : TE} {p pos : Pos} {j : Nat}
theorem pe_newE (c : ExK X.prog X.w X.K X.mg X.base x C) (hr : Room j X.A) (hk : 2 ≤ j) (hg : Gl X x) (ha : PE X e te) (hdb : (x == ("__debug__" : Str)) = false := by decide)
    (he : starEach [e] X.env = (false, eval e X.env) :: starEach [] X.env := by rfl) (hpl : (backTo pos (starEach [] X.env)).any (·.1) = false := by rfl) : PE X (.Call (.Name x p) [e] [] pos) (tValE X.K C te) := by
  obtain ⟨fI, fd, T, F1, hb⟩ := c.ex
  have T0 := T.oex
  obtain ⟨nm, q, N, bs, bm, sn, sub, ab, col, dd, k0, k1, k2, k3, k5, hC, hbm⟩ := T0.cls
  refine ⟨fun pins s σ H Q I h => ?_⟩
  refine wpAny_Call_Name_kw (ld_glob I hg T.gC ?_ hdb)
  refine PySem.W.callWith_K (h₀ := X.base) I.ok.mod.kin T0.kC (thn ((pa_cons ha pa_nil he).run pos pins s σ H (fun vs H1 => match vs with | [y] => ∀ a d H2, Same H1 H2 → H1 a = none → H1 d = none → H2 a = some (exo a C (some d)) → H2 d = some (exd d [("word", y)]) → Q (.ref a) H2 | _ => False) I h) fun us s1 ⟨vs, H1, I1, r1, q1⟩ => ⟨I1.kIn, ?_⟩) he hpl
  obtain ⟨y, rfl⟩ : ∃ y, vs = [y] := by
    match vs, q1 with
    | [y], _ => exact ⟨y, rfl⟩
  replace q1 : ∀ a d H2, Same H1 H2 → H1 a = none → H1 d = none → H2 a = some (exo a C (some d)) → H2 d = some (exd d [("word", y)]) → Q (.ref a) H2 := q1
  show wpAny _ _ (call (.ref C) us) _ _ _
  obtain ⟨hp, g, dr, tk, os⟩ := s1
  have hsz : hp.objs.size ≤ hp.objs.size + 1 := Nat.le_succ _
  have hn : H1 (hp.objs.size + 1) = none := I1.hok.fresh hsz
  have kk : ∀ b o, hp.get? b = some o → ((hp.push (PySem.W.kdv_tup us)).push (PySem.HandSPX.excO C hp.objs.size)).get? b = some o := fun b o e => Heap.get?_push_of_some _ (Heap.get?_push_of_some _ e)
  have hget : ((hp.push (PySem.W.kdv_tup us)).push (PySem.HandSPX.excO C hp.objs.size)).get? (hp.objs.size + 1) = some (PySem.HandSPX.excO C hp.objs.size) := by heap_get
  have I2 : Inv X pins σ (upd H1 (hp.objs.size + 1) (exo (hp.objs.size + 1) C none)) ⟨(hp.push (PySem.W.kdv_tup us)).push (PySem.HandSPX.excO C hp.objs.size), g, dr, tk, os⟩ :=
    I1.laid (t' := tk) (a := hp.objs.size + 1) (o := exo (hp.objs.size + 1) C none) (h' := (hp.push (PySem.W.kdv_tup us)).push (PySem.HandSPX.excO C hp.objs.size)) kk hsz (exo_ok hget)
  have r2 : Vals [V.ref (hp.objs.size + 1), y] (Value.ref (hp.objs.size + 1) :: us) := .cons rfl r1
  have hl : (Value.ref (hp.objs.size + 1) :: us ++ []).length = 2 := by rw [List.append_nil]; exact r2.length.symm
  have hus : us.length ≤ sizeLine := by
    rw [← Paired.length r1, sizeLine_eq]
    exact (by decide : 1 ≤ 16777216)
  have hsp : spInit X.K [V.ref (hp.objs.size + 1), y] (upd H1 (hp.objs.size + 1) (exo (hp.objs.size + 1) C none)) (fun v H2 => v = .non ∧ ∃ d, H1 d = none ∧ Same H1 H2 ∧ H2 (hp.objs.size + 1) = some (exo (hp.objs.size + 1) C (some d)) ∧ H2 d = some (exd d [("word", y)])) (fun _ _ _ => False) := by
    refine ⟨_, C, y, rfl, T0, T.noW, upd_same, fun d nd ne => ⟨rfl, d, ?_, ?_, upd_same, ?_⟩⟩
    · rw [upd_ne ne] at nd; exact nd
    · rw [upd_ne ne] at nd
      intro b o e
      have b1 : b ≠ d := ne_of_none e nd
      have b2 : b ≠ hp.objs.size + 1 := ne_of_none e hn
      unfold exoHp
      rw [upd_ne b2, upd_ne b1, upd_ne b2]
      exact e
    · unfold exoHp
      rw [upd_ne ne, upd_same]
  refine wpAny_call (PySem.HandSPX.call_own F.excBase_ValueError (fun Y => PySem.HandSPX.refsVE_contains Y bm hbm) (I1.kIn _ _ hC) (PySem.W.looks_findIn I1.kIn T.iC) (fun self => PySem.W.bind_fn I1.kIn self T.tI) hus
    (codeAny_mono ((F1.mono (show 1 ≤ 1 from Nat.le_refl _)).run _ X.stack _ _ ⟨Value.ref (hp.objs.size + 1) :: us, []⟩ (Value.ref (hp.objs.size + 1) :: us ++ []) _ _ (fun _ _ _ => False) ((hr.mono hk).make C us []) (I2.env0.make C us []) (hb _ (Value.ref (hp.objs.size + 1) :: us) I2.kIn hl) (by rw [List.append_nil]; exact r2) hsp) fun r s' hq' => ?_))
  cases r with
  | error er => exact (show False from hq').elim
  | ok fl =>
    cases fl with
    | ret u =>
      obtain ⟨v, H2, os2, bare2, un2, hok2, rv, ev, d, nd, sm, ea, ed⟩ := hq'
      subst ev
      obtain ⟨h2, g2, d2, t2, os'⟩ := s'
      refine ⟨rv, ?_⟩
      have J := I2.call' (ch := []) os2 un2 hok2 bare2 (fun b z => absurd z (by simp))
      exact ⟨.ref (hp.objs.size + 1), H2, J, rfl, q1 _ d H2 sm hn nd ea ed⟩
    | next => exact False.elim hq'
    | brk => exact False.elim hq'
    | cont => exact False.elim hq'
end
theorem same_upd {H : Hp} {p : Addr} {o : HO} (h : H p = none) : Same H (upd H p o) := fun b x e => by
  rw [upd_ne (ne_of_none e h)]; exact e
theorem same_at {H0 H : Hp} {D : Addr} {o : HO} (s : Same H0 H) (n : H0 D = none) : Same H0 (upd H D o) := fun b x e => by
  rw [upd_ne (ne_of_none e n)]; exact s _ _ e
theorem sq_tup {K : PySem.W.Frag} {H : Hp} {p : Addr} {xs : List V} (h : H p = some (.tup xs)) : SqT K H p xs := .inl (.inl h)
theorem sq_lst {K : PySem.W.Frag} {H : Hp} {p : Addr} {xs : List V} (h : H p = some (.lst xs)) : SqL K H p xs := .inl (.inl h)
theorem ne_of {H : Hp} {a b : Addr} {x y : HO} (ha : H a = some x) (hb : H b = some y) (n : x ≠ y) : a ≠ b := fun z => by
  rw [z, hb] at ha
  exact n (Option.some.inj ha).symm
/-! ### isinstance, of own errors too -/
structure IsE (K : PySem.W.Frag) (C : Addr) : Prop where
  cl : (PySem.W.clsIn K C).isSome = true
  ga : PySem.W.findIn K (.ref C) "__getattribute__" = some (some (.builtin "BaseException.__getattribute__"))
  gg : PySem.W.findIn K (.ref C) "__getattr__" = some none
  exC : PySem.W.subIn K (.ref C) (.type "BaseException") = some true
  ha : PySem.W.findIn K (.ref C) "__class__" = some (some (.builtin "object.__class__"))
  hn : PySem.W.specialIn K (.builtin "object.__class__") "__get__" = some (some (.builtin "getset_descriptor.__get__"))
  htk : PySem.W.takesIn K (.builtin "object.__class__") = some true
  hm : PySem.W.mroIn K C (.type "object") = some true
inductive TyE (K : PySem.W.Frag) (H : Hp) : V → Value → Prop where
  | base {x : V} {t : Value} (h : TyX K H x t) : TyE K H x t
  | exc {a C d : Addr} {fs : List (Str × V)} (T : IsE K C) (e : H a = some (exo a C (some d))) (f : H d = some (exd d fs)) : TyE K H (.ref a) (.ref C)
def rIsE (K : PySem.W.Frag) : List V → Hp → VK → Prop := fun xs H Q => ∃ (x : V) (t : Value) (n : String) (b : Bool), xs = [x, .ty n] ∧ TyE K H x t ∧ PySem.W.kitOne K t (.type n) = some b ∧ Q (.bl b) H
section
variable {X : Cx}
theorem call_isE : CallR X (.builtin "isinstance") (rIsE X.K) := by
  intro pins s σ H xs us Q I r h
  obtain ⟨x, t, n, b, rfl, ty, e, q⟩ := h
  cases ty with
  | base ty => exact call_isi pins s σ H _ us Q I r ⟨x, .ty n, t, .type n, b, rfl, .ty n, ty, e, q⟩
  | @exc a C d fs T ea ed =>
    obtain ⟨u1, u2, rfl, r1, r2⟩ := vals2 r
    cases (show u1 = Value.ref a from r1)
    cases (show u2 = Value.type n from r2)
    obtain ⟨t1, ho⟩ := exo_at I.hok ea
    obtain ⟨mA, ⟨od, es, ep, hd, hrest⟩, rel⟩ := exd_at I.hok ed
    have J : PySem.W.InstAt s.heap a { cls := .ref C, dict := some d, data := .fields #[.ref t1, .none, .none, .none, .bool false, .none] } C (some od) := ⟨ho, rfl, rfl, hd⟩
    exact PySem.W.kia_one (PySem.W.kitx_exc T.cl T.ga T.gg T.exC T.ha T.hn T.htk T.hm) I.kIn J e (fun z => nomatch z) fun tk => ⟨.bl b, H, I.tok tk, rfl, q⟩
/-! ### // by any divisor but 0 -/
def CDivX (_ j : Int) : Prop := j ≠ 0 ∧ j.natAbs.log2 < 9000
theorem op_fdivX : OpR X (binaryOp .FloorDiv) (rI CDivX fun i j => .int (i.fdiv j)) := opI fun i j _ _ _ _ _ hc q => floordiv_int hc.1 q (.inl (PyProof.noPylong_of_log2 hc.2))
end
theorem divx_ok {i j : Int} {b : Nat} (h : j ≠ 0) (hb : j.natAbs < 2 ^ b) (h0 : 0 < b) (h9 : b ≤ 9000) : CDivX i j := ⟨h, Nat.lt_of_lt_of_le (PySem.Flt.log2_lt_of h0 hb) h9⟩
/-! ### calls -/
/-- a def that may raise -/
structure CalX (P : Program) (w : World) (K : PySem.W.Frag) (mg : Str → Option Value) (base : Heap) (k : Nat) (x : Str) (sp : Sp) : Prop where
  ex : ∃ (f : Addr) (fd : FuncData) (ps : List Str), FnOk P w K mg base (L2.CX P w) k f fd ps sp ∧ mg x = some (.ref f) ∧ PySem.W.keepIn K (.ref f) = true ∧ Binds K fd ps []
section
variable {X : Cx} {k j : Nat} {x : Str} {sp : Sp} {e : Expr} {es : List Expr} {t : TA} {p pos : Pos}
/-- x(..), where x raises nothing -/
theorem pe_x (c : CalX X.prog X.w X.K X.mg X.base k x sp) (hr : Room j X.A) (hk : k ≤ j) (hg : Gl X x) (ha : PA X (e :: es) t)
    (hdb : (x == ("__debug__" : Str)) = false := by decide) (he : starEach (e :: es) X.env = (false, eval e X.env) :: starEach es X.env := by rfl) (hpl : (backTo pos (starEach es X.env)).any (·.1) = false := by rfl) :
    PE X (.Call (.Name x p) (e :: es) [] pos) (tCall sp [] L2.E0 t) := by
  obtain ⟨f, fd, ps, F, hm, kp, b⟩ := c.ex
  exact pe_call F (hr.mono hk) hg hm kp b .nil passL ha hdb he hpl
/-- x(..), where what x raises goes on as E -/
theorem pe_xE {E : XK} (hx : Passes (L2.CX X.prog X.w) X E) (c : CalX X.prog X.w X.K X.mg X.base k x sp) (hr : Room j X.A) (hk : k ≤ j) (hg : Gl X x) (ha : PA X (e :: es) t)
    (hdb : (x == ("__debug__" : Str)) = false := by decide) (he : starEach (e :: es) X.env = (false, eval e X.env) :: starEach es X.env := by rfl) (hpl : (backTo pos (starEach es X.env)).any (·.1) = false := by rfl) :
    PE X (.Call (.Name x p) (e :: es) [] pos) (tCall sp [] E t) := by
  obtain ⟨f, fd, ps, F, hm, kp, b⟩ := c.ex
  exact pe_call F (hr.mono hk) hg hm kp b .nil hx ha hdb he hpl
end
/-- two, exchanged -/
def sw {α : Type} : List α → List α
  | [x, y] => [y, x]
  | _ => []
/-- a call with keywords alone -/
structure CalK (P : Program) (w : World) (K : PySem.W.Frag) (mg : Str → Option Value) (base : Heap) (k : Nat) (x : Str) (ks : List Str) (gV : List V → List V) (sp : Sp) : Prop where
  ex : ∃ (f : Addr) (fd : FuncData) (ps : List Str) (gu : List Value → List Value) (CX : CXT), (CX = CX0 ∨ CX = L2.CX P w) ∧ FnOk P w K mg base CX k f fd ps sp ∧ mg x = some (.ref f) ∧ PySem.W.keepIn K (.ref f) = true ∧
    (∀ (s : Shared) (ws : List Value), (gu ws).length = ps.length → BindsTo s fd ⟨[], ks.zip ws⟩ (ps.zip (gu ws))) ∧ ∀ (zs : List V) (ws : List Value), Vals zs ws → Vals (gV zs) (gu ws)
def tKw (sp : Sp) (gV : List V → List V) (E : XK) (tk : TA) : TE := fun σ H Q => tk σ H fun zs H1 => sp (gV zs) H1 Q E
section
variable {X : Cx} {k j : Nat} {x : Str} {ks : List Str} {gV : List V → List V} {sp : Sp} {p pos : Pos} {kws : List Keyword} {tk : TA}
theorem pe_kwE {E : XK} (hx : Passes (L2.CX X.prog X.w) X E) (c : CalK X.prog X.w X.K X.mg X.base k x ks gV sp) (hr : Room j X.A) (hk : k ≤ j) (hg : Gl X x) (hkw : PK X kws tk)
    (hall : (backToKw pos (keywordEach kws X.env)).all (·.1.isSome) = true := by rfl) (hks : (backToKw pos (keywordEach kws X.env)).filterMap (·.1) = ks := by rfl) (hdb : (x == ("__debug__" : Str)) = false := by decide)
    (hpl : ((backTo pos (starEach [] X.env)).any (·.1) || (backToKw pos (keywordEach kws X.env)).any (·.1.isNone)) = false := by rfl) : PE X (.Call (.Name x p) [] kws pos) (tKw sp gV E tk) := by
  obtain ⟨f, fd, ps, gu, CX, hC, F, hm, kp, bt, rel⟩ := c.ex
  refine ⟨fun pins s1 σ H Q I hh => wpAny_Call_Name_kw (ld_glob I hg hm ?_ hdb)⟩
  refine PySem.W.callWith_KW0 (h₀ := X.base) I.ok.mod.kin kp hall (thn (hkw.run pos pins s1 σ H _ I hh) fun ws s2 hz => ?_) hpl
  obtain ⟨zs, H2, I2, rz, q2⟩ := hz
  refine ⟨I2.kIn, ?_⟩
  rw [hks]
  have r2 := rel zs ws rz
  have hl : (gu ws).length = ps.length := r2.length.symm.trans (F.len _ _ _ _ q2)
  refine wpAny_call (codeAny_mono ((F.mono hk).run X.A X.stack s2 H2 ⟨[], ks.zip ws⟩ (gu ws) (gV zs) Q E hr I2.env0 (bt s2 ws hl) r2 q2) fun r s3 hq => ?_)
  cases r with
  | error e =>
    rcases hC with rfl | rfl
    · exact (show False from hq).elim
    · exact hx pins σ H2 s2 e s3 I2 hq
  | ok fl =>
    cases fl with
    | ret u => exact I2.after hq
    | next => exact hq.elim
    | brk => exact hq.elim
    | cont => exact hq.elim
theorem pe_kw (c : CalK X.prog X.w X.K X.mg X.base k x ks gV sp) (hr : Room j X.A) (hk : k ≤ j) (hg : Gl X x) (hkw : PK X kws tk)
    (hall : (backToKw pos (keywordEach kws X.env)).all (·.1.isSome) = true := by rfl) (hks : (backToKw pos (keywordEach kws X.env)).filterMap (·.1) = ks := by rfl) (hdb : (x == ("__debug__" : Str)) = false := by decide)
    (hpl : ((backTo pos (starEach [] X.env)).any (·.1) || (backToKw pos (keywordEach kws X.env)).any (·.1.isNone)) = false := by rfl) : PE X (.Call (.Name x p) [] kws pos) (tKw sp gV L2.E0 tk) := pe_kwE passL c hr hk hg hkw hall hks hdb hpl
end
/-- a def of the text, its name, how it binds -/
structure Df (K : PySem.W.Frag) (mg : Str → Option Value) (x : Str) (st : Stmt) (ps : List Str) : Prop where
  ex : ∃ f fd, Fun K x x st f fd ∧ mg x = some (.ref f) ∧ Binds K fd ps []
section
variable {P : Program} {w : World} {K : PySem.W.Frag} {mg : Str → Option Value} {base : Heap}
theorem cal_of {x : Str} {st : Stmt} {ps : List Str} {k : Nat} {sp : Sp} (D : Df K mg x st ps) (h : ∀ f fd, Fun K x x st f fd → FnOk P w K mg base CX0 k f fd ps sp) : Cal P w K mg base k x sp [] := by
  obtain ⟨f, fd, F, hm, b⟩ := D.ex
  exact ⟨f, fd, ps, [], h f fd F, hm, F.kp, b, .nil⟩
theorem calx_of {x : Str} {st : Stmt} {ps : List Str} {k : Nat} {sp : Sp} (D : Df K mg x st ps) (h : ∀ f fd, Fun K x x st f fd → FnOk P w K mg base (L2.CX P w) k f fd ps sp) : CalX P w K mg base k x sp := by
  obtain ⟨f, fd, F, hm, b⟩ := D.ex
  exact ⟨f, fd, ps, h f fd F, hm, F.kp, b⟩
end
/-! ### several clauses, each with the same name -/
abbrev Suite := Addr → Value → Option Addr → TS
/-- the ends behind a clause: its name is gone -/
def offName (i : Nat) (D : Ends) : Ends := { nx := fun σ H => D.nx (σ.set i none) H, rt := D.rt, bk := fun σ H => D.bk (σ.set i none) H, ct := fun σ H => D.ct (σ.set i none) H }
def wNamed (K : PySem.W.Frag) (i : Nat) (Wout : WX) (D : Ends) : List (Value × Suite) → WX
  | [] => Wout
  | z :: r => fun cls d σ H => ∃ b, PySem.W.exmOne K cls z.1 = some b ∧ (b = true → ∀ a, H a = none → i < σ.length → z.2 a cls d (offName i D) (σ.set i (some (.ref a))) H) ∧ (b = false → wNamed K i Wout D r cls d σ H)
inductive Clauses (X : Cx) (n : Str) : List ExceptHandler → List (Value × Suite) → Prop
  | nil : Clauses X n [] []
  | cons {x : Str} {c : Value} {ts : Suite} {b : Stmt} {bs : List Stmt} {p q : Pos} {hs : List ExceptHandler} {l : List (Value × Suite)} (nm : Names X x c)
      (su : ∀ (a : Addr) (oe : Obj) (cls : Value) (d : Option Addr) (pn : List (Addr × Obj)), Zc cls d oe → (∃ vs, oe.data = .fields vs) → PSs (X.suite a ((a, oe) :: pn)) (b :: bs) (ts a cls d)) (r : Clauses X n hs l) :
      Clauses X n (.ExceptHandler (some (.Name x p)) (some n) (b :: bs) q :: hs) ((c, ts) :: l)
section
variable {X : Cx} {pins : List (Addr × Obj)} {n : Str} {i : Nat} {Wout : WX} {D : Ends} {body : List Stmt} {tb : WX → TS} {pos : Pos}
/-- what flies has met no clause yet -/
theorem clauses_go (hs : X.stack = X.env :: X.outer) (hf : X.env.frame = some X.env.locals) (hN : X.N.Nodup) (hi : X.N[i]? = some n) (hl : X.env.kindOf n = some .local) (tk : L2.Takes X Wout)
    {a : Addr} {B : Heap} {cls : Value} {d : Option Addr} {σ : L2.St} {H : Hp} {s : Shared} {sI : Shared} (ok : X.Ok) (J : Inv X pins σ H sI) (nb : ∀ b o, sI.heap.get? b = some o → b ∉ frs X.stack → B.get? b = some o) (os : s.os = sI.os) (ag : AllBare s.gens) (na : H a = none)
    {h3 : Heap} (fl3 : HandSPX.FlyingZ B (X.env :: X.outer) a (Zc cls d) h3) (up3 : sI.heap.UpToSlots h3) : ∀ {hds : List ExceptHandler} {l : List (Value × Suite)}, Clauses X n hds l → wNamed X.K i Wout D l cls d σ H →
      wpAny (model X.prog X.w) X.A (handleBy (.ref a) X.env hds) (SP X pins D) X.xe { s with heap := h3 } := by
  have hfr : X.A.frames = some (X.env :: X.outer) := by rw [ok.frames, hs]
  have J3 : Inv X pins σ H { s with heap := h3 } := J.landed nb fl3.1 up3 os ag
  obtain ⟨oe, vs, he, hz, hd⟩ := id fl3.there
  have apart : a ∉ frs (X.env :: X.outer) := fun hm => by
    obtain ⟨_, o, e, hnf⟩ := fl3.2.2.1.mem hm
    rw [he] at e
    cases e
    exact hnf _ hd
  have nL : a ≠ X.env.locals := fun z => apart (List.mem_filterMap.mpr ⟨X.env, List.mem_cons_self, by rw [hf, z]⟩)
  have nF : a ∉ X.fs := fun hm => by
    obtain ⟨e, q1, q2⟩ := List.mem_filterMap.mp hm
    exact apart (List.mem_filterMap.mpr ⟨e, List.mem_cons_of_mem _ q1, q2⟩)
  have S3 := J3.suite he hd na nL nF
  have hlt : i < σ.length := by rw [J.len]; exact (List.getElem?_eq_some_iff.mp hi).1
  have LT : PySem.W.Looks (model X.prog X.w) h3 (typeOf (.ref a)) cls := fun A Q E s k q => wpAny_typeOf_ref (k _ _ he) (by rw [hz.1]; exact q)
  intro hds l C
  induction C with
  | nil =>
    intro w
    refine wpAny_handleBy_nil ?_
    obtain ⟨_, _, _, oe', vs', T, _, _, e1, _, e2, e3, _⟩ := id fl3
    unfold PySem.passOn
    refine wpAny_bind (wpAny_field e1 e2 e3 ?_)
    rw [if_neg (show ¬ ((Value.ref T == Value.none) = true) from by simp)]
    have fin : wpAny (model X.prog X.w) X.A (setFlight (.ref a) X.env.frame) (fun _ s4 => wpAny (model X.prog X.w) X.A (throw (.ref a) : Sem Flow) (SP X pins D) X.xe s4) X.xe { s with heap := h3 } := by
      rw [hf]
      exact HandSPX.setFlight_upZ fl3 fun h4 x4 up4 => wpAny_throw (tk _ _ ⟨a, B, sI, pins, σ, H, cls, d, rfl, J, nb, up3.trans up4, .inr (.inr (by rw [hs]; exact x4)), na, os, ag, w⟩)
    first
      | exact wpAny_bind (wpAny_pure (wpAny_bind fin))
      | exact wpAny_bind fin
  | @cons x c ts b0 bs p q hds' l' nm su r ih =>
    intro w
    obtain ⟨b, hb, yes, no⟩ := w
    refine wpAny_handleBy_cons (codeAny_handlers_test ?_) (by intro z; cases z)
    have LM := PySem.W.exm_one (M := model X.prog X.w) J3.kIn LT hb
    have test : ∀ {Q : Value → Shared → Prop} {E : Value → Shared → Prop}, Q c { s with heap := h3 } → wpAny (model X.prog X.w) (X.A.mark (some (.ref a))) (eval (.Name x p) X.env) Q E { s with heap := h3 } := fun {Q E} z => by
      obtain ⟨hg, hg2, hm | ⟨hm, hv, hnn⟩⟩ := nm
      · exact ld_glob (X := X.suite a ((a, oe) :: (X.pn ++ pins))) S3 hg hm z hg2
      · exact ld_blt (X := X.suite a ((a, oe) :: (X.pn ++ pins))) S3 hg hm hv z hnn hg2
    refine test (LM.here ?_)
    cases b with
    | false => exact ih (no rfl)
    | true =>
      refine codeAny_handlers_suite_as (HandSPX.lands_againZ fl3 fun h4 fl4 up4 => ?_)
      have J4 : Inv X pins σ H { s with heap := h4 } := J.landed nb fl4.1 (up3.trans up4) os ag
      obtain ⟨oe4, vs4, he4, hz4, hd4⟩ := fl4.there
      refine store_ok (X := X.suite a ((a, oe4) :: (X.pn ++ pins))) (v := .ref a) (J4.suite he4 hd4 na nL nF) hN hi (.inl hl) rfl (fun s5 S5 => ?_) (.inr hl)
      refine wpAny_mono ((su a oe4 cls d (X.pn ++ pins) hz4 ⟨_, hd4⟩).run [] s5 _ H _ S5 (yes rfl a na hlt)) (fun fl s6 z => ?_) (fun _ _ z => False.elim z)
      have off : ∀ {σ6 : L2.St} {H6 : Hp} {Q : Shared → Prop}, Inv (X.suite a ((a, oe4) :: (X.pn ++ pins))) [] σ6 H6 s6 → (∀ s7, Inv X pins (σ6.set i none) H6 s7 → Q s7) →
          wpAny (model X.prog X.w) X.A (do bindName X.env n .none; unbindBehindTheSuite X.env n q) (fun _ s7 => Q s7) X.xe s6 := fun {σ6 H6 Q} S6 k => gone_ok (S6.unsuite ok) hN hi hl k
      cases fl with
      | next =>
        obtain ⟨σ6, H6, S6, k⟩ := z
        exact off S6 fun s7 J7 => ⟨_, _, J7, k⟩
      | brk =>
        obtain ⟨σ6, H6, S6, k⟩ := z
        exact off S6 fun s7 J7 => ⟨_, _, J7, k⟩
      | cont =>
        obtain ⟨σ6, H6, S6, k⟩ := z
        exact off S6 fun s7 J7 => ⟨_, _, J7, k⟩
      | ret u =>
        obtain ⟨v6, σ6, H6, S6, r6, k⟩ := z
        exact off S6 fun s7 J7 => ⟨_, _, _, J7, r6, k⟩
theorem ps_try_named {h0 : ExceptHandler} {hds : List ExceptHandler} {l : List (Value × Suite)} (hs : X.stack = X.env :: X.outer) (hf : X.env.frame = some X.env.locals) (hN : X.N.Nodup) (hi : X.N[i]? = some n) (hl : X.env.kindOf n = some .local) (tk : L2.Takes X Wout)
    (hb : ∀ (W : WX) (pn : List (Addr × Obj)) (xe : Value → Shared → Prop), L2.Takes (X.tr pn xe) W → PassesOwn (model X.prog X.w) X.A X.env xe → PSs (X.tr pn xe) body (tb W))
    (C : Clauses X n (h0 :: hds) l) : PS X (.Try body (h0 :: hds) [] [] pos) (fun D σ H => tb (wNamed X.K i Wout D l) D σ H) := by
  refine ⟨fun pins s σ H D I h => ?_⟩
  have ok := I.ok
  have hfr : X.A.frames = some (X.env :: X.outer) := by rw [ok.frames, hs]
  refine wpAny_Try_except (wpAny_mono ((hb (wNamed X.K i Wout D l) (X.pn ++ pins) (fun e s₁ => wpAny (model X.prog X.w) X.A (noteFrame e X.env) (fun _ s₂ => wpAny (model X.prog X.w) X.A (setFlight e none) (fun _ s₃ =>
    wpAny (model X.prog X.w) X.A (handleBy e X.env (h0 :: hds)) (SP X pins D) X.xe s₃) X.xe s₂) X.xe s₁) (fun u s' xx => ?_) PassesOwn.looking).run [] s σ H D (I.toTry _) h) (fun f s1 z => ?_) (fun e s1 z => z))
  · obtain ⟨a, B, sI, pins', σ', H', cls, d, rfl, J', nb, up, sky, na, os, ag, w⟩ := xx
    refine Sky.land Zc.steady hfr hf (by rw [← hs]; exact sky) fun h3 fl3 up3 => ?_
    exact clauses_go hs hf hN hi hl tk ok (J'.ofTry ok) nb os ag na fl3 (up.trans up3) C w
  · cases f with
    | next =>
      obtain ⟨σ', H', J', q⟩ := z
      exact wpAny_execs_nil ⟨σ', H', J'.ofTry ok, q⟩
    | brk =>
      obtain ⟨σ', H', J', q⟩ := z
      exact ⟨σ', H', J'.ofTry ok, q⟩
    | cont =>
      obtain ⟨σ', H', J', q⟩ := z
      exact ⟨σ', H', J'.ofTry ok, q⟩
    | ret u =>
      obtain ⟨v, σ', H', J', r, q⟩ := z
      exact ⟨v, σ', H', J'.ofTry ok, r, q⟩
end
/-! ### the source of draws -/
def BoxAt (H : Hp) (b : Addr) : Prop := ∃ g m n : Int, H b = some (.lst [.int g, .int m, .int n])
theorem BoxAt.same {H H' : Hp} {b : Addr} (h : BoxAt H b) (s : Same H H') : BoxAt H' b := by
  obtain ⟨g, m, n, e⟩ := h
  exact ⟨g, m, n, s _ _ e⟩
/-- all but the source stays -/
def Keep (b : Addr) (H H' : Hp) : Prop := ∀ a o, H a = some o → a ≠ b → H' a = some o
theorem Keep.refl (b : Addr) (H : Hp) : Keep b H H := fun _ _ e _ => e
theorem Keep.trans {b : Addr} {H H1 H2 : Hp} (x : Keep b H H1) (y : Keep b H1 H2) : Keep b H H2 := fun a o e n => y a o (x a o e n) n
theorem Keep.of {b : Addr} {H H' : Hp} (s : Same H H') : Keep b H H' := fun a o e _ => s a o e
theorem Keep.at_ {b : Addr} {H : Hp} {o : HO} : Keep b H (upd H b o) := fun a x e n => by rw [upd_ne n]; exact e
theorem BoxAt.ne_of {H : Hp} {b p : Addr} (h : BoxAt H b) (n : H p = none) : p ≠ b := by
  obtain ⟨g, m, k, e⟩ := h
  exact (ne_of_none e n).symm
theorem BoxAt.ne_tup {H : Hp} {b p : Addr} {xs : List V} (h : BoxAt H b) (n : H p = some (.tup xs)) : p ≠ b := by
  obtain ⟨g, m, k, e⟩ := h
  exact Own.ne_of n e (by intro z; cases z)
theorem Keep.seq {K : PySem.W.Frag} {b a : Addr} {H H' : Hp} {xs : List V} (k : Keep b H H') (ne : a ≠ b) (h : SqL K H a xs) : SqL K H' a xs := by
  rcases h with (h | ⟨o, h⟩) | h
  · exact .inl (.inl (k _ _ h ne))
  · exact .inl (.inr ⟨o, k _ _ h ne⟩)
  · exact .inr h
/-- a def whose code object stands at c -/
structure FunC (K : PySem.W.Frag) (x qual : Str) (st : Stmt) (f : Addr) (fd : FuncData) (c : Addr) : Prop where
  ex : ∃ (oc : Value) (od : Option Addr) (kV doc pm : Value) (an : Option Addr) (ct : Value) (osl : Array (Option Value)),
    fd = PySem.W.fnOf x qual (defArgs st) (defBody st) (defScope st) .none kV doc pm an (.ref c) ct ∧ K.lookup f = some ⟨oc, od, .func fd, osl⟩ ∧ PySem.W.codeIn K (.ref c) qual = true
section
variable {P : Program} {w : World} {K : PySem.W.Frag} {mg : Str → Option Value} {base : Heap}
theorem FunC.ok {x qual : Str} {st : Stmt} {f c : Addr} {fd : FuncData} {N ps : List Str} {k : Nat} {sp : Sp} (F : FunC K x qual st f fd c) (S : FnScope N ps (defScope st)) (len : ∀ vs H Q E, sp vs H Q E → vs.length = ps.length)
    (hbody : ∀ (A : Around) (outer : List Env) (s : Shared) (H : Hp) (vs : List V) (Q : VK) (E : XK), Room k (A.deeper (envOfC qual (defScope st) s.heap.objs.size f (.ref c))) → sp vs H Q E →
      ∃ t, PSs (cxOf CX0 P w K mg base N qual (defScope st) f (.ref c) A outer s H E).nox (defBody st) t ∧ t { nx := fun _ H' => Q .non H', rt := Q } (L2.start N vs) H) : FnOk P w K mg base CX0 (k + 1) f fd ps sp := by
  obtain ⟨oc, od, kV, doc, pm, an, ct, osl, rfl, lk, hcd⟩ := F.ex
  refine fn_of lk hcd S len fun A outer s H vs Q E hr hsp => ?_
  obtain ⟨t, h, q⟩ := hbody A outer s H vs Q E hr hsp
  exact ⟨t, h.nox, q⟩
end
/-! ### the tables stay tables -/
def KeepN (b : Addr) (H H' : Hp) : Prop := ∀ a o, H a = some o → a ≠ b → (∀ ps, o ≠ .tbl ps) → H' a = some o
theorem KeepN.of_keep {b : Addr} {H H' : Hp} (k : Keep b H H') : KeepN b H H' := fun a o e n _ => k a o e n
theorem KeepN.of_ext {b : Addr} {H H' : Hp} (k : LamX.ExtN H H') : KeepN b H H' := fun a o e _ n => k a o e n
theorem KeepN.trans {b : Addr} {H H1 H2 : Hp} (x : KeepN b H H1) (y : KeepN b H1 H2) : KeepN b H H2 := fun a o e n m => y a o (x a o e n m) n m
theorem ext_of {H H' : Hp} (s : Same H H') : LamX.ExtN H H' := LamX.ExtN.of s
theorem ext_at {H0 H : Hp} {D : Addr} {o : HO} (s : LamX.ExtN H0 H) (n : H D = none) : LamX.ExtN H0 (upd H D o) := s.trans (ext_of (same_upd n))
theorem codeO_lst {c : Addr} {q : Str} {xs : List V} : LamX.CodeO c q ≠ .lst xs := fun z => by
  unfold LamX.CodeO at z
  cases z
theorem BoxAt.ext {H H' : Hp} {b : Addr} (h : BoxAt H b) (s : LamX.ExtN H H') : BoxAt H' b := by
  obtain ⟨g, m, n, e⟩ := h
  exact ⟨g, m, n, s _ _ e (fun ps z => by cases z)⟩
theorem tabs_keep {T : List (Addr × Str)} {b : Addr} {H H' : Hp} (t : LamX.Tabs T H) (x : BoxAt H b) (k : Keep b H H') : LamX.Tabs T H' := fun p hp => by
  obtain ⟨ps, h1, h2, h3⟩ := t p hp
  obtain ⟨g, m, n, e⟩ := x
  refine ⟨ps, k _ _ h1 (Own.ne_of h1 e (by intro z; cases z)), h2, fun pos cv hc => ?_⟩
  obtain ⟨c, e1, e2⟩ := h3 pos cv hc
  exact ⟨c, e1, k _ _ e2 (Own.ne_of e2 e codeO_lst)⟩
/-- new, as far as it is no table -/
def FreeN (H : Hp) (l : Addr) : Prop := ∀ o, H l = some o → ∃ ps, o = .tbl ps
theorem freeN_of {H H' : Hp} {l : Addr} (x : LamX.ExtN H H') (n : H' l = none) : FreeN H l := fun o e => by
  refine Classical.byContradiction fun h => ?_
  rw [x _ _ e (fun ps z => h ⟨ps, z⟩)] at n
  cases n
theorem ext_put {H H' : Hp} {l : Addr} {o : HO} (x : LamX.ExtN H H') (n : FreeN H l) : LamX.ExtN H (upd H' l o) := fun b u e h => by
  by_cases hb : b = l
  · subst hb
    obtain ⟨ps, z⟩ := n u e
    exact absurd z (h ps)
  · rw [upd_ne hb]; exact x _ _ e h
theorem tabs_put {T : List (Addr × Str)} {l : Addr} {H : Hp} {xs : List V} {o : HO} (t : LamX.Tabs T H) (e : H l = some (.lst xs)) : LamX.Tabs T (upd H l o) := fun p hp => by
  obtain ⟨ps, h1, h2, h3⟩ := t p hp
  refine ⟨ps, by rw [upd_ne (Own.ne_of h1 e (by intro z; cases z))]; exact h1, h2, fun pos cv hc => ?_⟩
  obtain ⟨c, e1, e2⟩ := h3 pos cv hc
  exact ⟨c, e1, by rw [upd_ne (Own.ne_of e2 e codeO_lst)]; exact e2⟩
theorem len1 {a : V} : [a].length ≤ sizeLine := by
  rw [sizeLine_eq]
  exact (by decide : 1 ≤ 16777216)
theorem len2 {a b : V} : [a, b].length ≤ sizeLine := by
  rw [sizeLine_eq]
  exact (by decide : 2 ≤ 16777216)
theorem len3 {a b c : V} : [a, b, c].length ≤ sizeLine := by
  rw [sizeLine_eq]
  exact (by decide : 3 ≤ 16777216)
theorem len4 {a b c d : V} : [a, b, c, d].length ≤ sizeLine := by
  rw [sizeLine_eq]
  exact (by decide : 4 ≤ 16777216)
theorem len5 {a b c d e : V} : [a, b, c, d, e].length ≤ sizeLine := by
  rw [sizeLine_eq]
  exact (by decide : 5 ≤ 16777216)
theorem len6 {a b c d e f : V} : [a, b, c, d, e, f].length ≤ sizeLine := by
  rw [sizeLine_eq]
  exact (by decide : 6 ≤ 16777216)
theorem nil_ok : ([] : List V).length ≤ sizeLine := Nat.zero_le _
theorem TyOf.same {K : PySem.W.Frag} {H H' : Hp} {x : V} {t : Value} (h : TyOf K H x t) (s : Same H H') : TyOf K H' x t := by
  cases h with
  | non => exact .non
  | bl b => exact .bl b
  | int i => exact .int i
  | str y => exact .str y
  | flt y => exact .flt y
  | lst e => exact .lst (s _ _ e)
  | frz e => exact .frz (s _ _ e)
  | tup e => exact .tup (s _ _ e)
  | dK e => exact .dK (s _ _ e)
  | dT e => exact .dT (s _ _ e)
  | ins e cl ha hn htk hm => exact .ins (s _ _ e) cl ha hn htk hm
theorem TyX.same {K : PySem.W.Frag} {H H' : Hp} {x : V} {t : Value} (h : TyX K H x t) (s : Same H H') : TyX K H' x t := by
  cases h with
  | base h => exact .base (TyOf.same h s)
  | byt b => exact .byt b
  | set e => exact .set (s _ _ e)
  | kList e c => exact .kList e c
  | kTuple e c => exact .kTuple e c
  | kDict e c => exact .kDict e c
  | fTuple e => exact .fTuple (s _ _ e)
  | fDict e => exact .fDict (s _ _ e)
theorem TyE.same {K : PySem.W.Frag} {H H' : Hp} {x : V} {t : Value} (h : TyE K H x t) (s : Same H H') : TyE K H' x t := by
  cases h with
  | base h => exact .base (TyX.same h s)
  | exc T e f => exact .exc T (s _ _ e) (s _ _ f)
theorem exo_lst {e C : Addr} {d : Option Addr} {xs : List V} : exo e C d ≠ .lst xs := fun z => by
  have z' : HO.ext _ = HO.lst xs := z
  cases z'
theorem exd_lst {e : Addr} {fs : List (Str × V)} {xs : List V} : exd e fs ≠ .lst xs := fun z => by
  have z' : HO.ext _ = HO.lst xs := z
  cases z'
theorem Keep.at_ne {b a : Addr} {H H' : Hp} {o : HO} (k : Keep b H H') (x : BoxAt H b) (e : H a = some o) (n : ∀ xs, o ≠ .lst xs) : H' a = some o := by
  obtain ⟨g, m, y, eb⟩ := x
  exact k _ _ e (Own.ne_of e eb (n _))
theorem TyOf.keep {K : PySem.W.Frag} {b : Addr} {H H' : Hp} {x : V} {t : Value} (h : TyOf K H x t) (hb : BoxAt H b) (hb' : BoxAt H' b) (s : Keep b H H') : TyOf K H' x t := by
  cases h with
  | non => exact .non
  | bl b => exact .bl b
  | int i => exact .int i
  | str y => exact .str y
  | flt y => exact .flt y
  | @lst a xs e =>
    by_cases c : a = b
    · subst c
      obtain ⟨g, m, n, e2⟩ := hb'
      exact .lst e2
    · exact .lst (s _ _ e c)
  | frz e => exact .frz (s.at_ne hb e (fun _ z => by cases z))
  | tup e => exact .tup (s.at_ne hb e (fun _ z => by cases z))
  | dK e => exact .dK (s.at_ne hb e (fun _ z => by cases z))
  | dT e => exact .dT (s.at_ne hb e (fun _ z => by cases z))
  | ins e cl ha hn htk hm => exact .ins (s.at_ne hb e (fun _ z => by cases z)) cl ha hn htk hm
theorem TyX.keep {K : PySem.W.Frag} {b : Addr} {H H' : Hp} {x : V} {t : Value} (h : TyX K H x t) (hb : BoxAt H b) (hb' : BoxAt H' b) (s : Keep b H H') : TyX K H' x t := by
  cases h with
  | base h => exact .base (TyOf.keep h hb hb' s)
  | byt b => exact .byt b
  | set e => exact .set (s.at_ne hb e (fun _ z => by cases z))
  | kList e c => exact .kList e c
  | kTuple e c => exact .kTuple e c
  | kDict e c => exact .kDict e c
  | fTuple e => exact .fTuple (s.at_ne hb e (fun _ z => by cases z))
  | fDict e => exact .fDict (s.at_ne hb e (fun _ z => by cases z))
theorem TyE.keep {K : PySem.W.Frag} {b : Addr} {H H' : Hp} {x : V} {t : Value} (h : TyE K H x t) (hb : BoxAt H b) (hb' : BoxAt H' b) (s : Keep b H H') : TyE K H' x t := by
  cases h with
  | base h => exact .base (TyX.keep h hb hb' s)
  | exc T e f => exact .exc T (s.at_ne hb e (fun _ => exo_lst)) (s.at_ne hb f (fun _ => exd_lst))
theorem seq_ext {K : PySem.W.Frag} {a : Addr} {H H' : Hp} {xs : List V} (x : LamX.ExtN H H') (h : SqL K H a xs) : SqL K H' a xs := by
  rcases h with (h | ⟨o, h⟩) | h
  · exact .inl (.inl (x _ _ h (fun ps z => by cases z)))
  · exact .inl (.inr ⟨o, x _ _ h (fun ps z => by cases z)⟩)
  · exact .inr h
theorem ext_keepN {b : Addr} {H H' : Hp} (k : KeepN b H H') (n : H b = none) : LamX.ExtN H H' := fun a o e m => k a o e (ne_of_none e n) m
theorem u65 {k : Nat} {A : Around} (hr : Room k A) : A.units + 65 < cLine := by have := hr.un; omega
open PySem.W (Frag findIn subIn typeIn keepIn)
open PySem.Calls
theorem sw2 {α : Type} {ws : List α} (h : (sw ws).length = 2) : ∃ a b, ws = [a, b] := by
  match ws, h with
  | [], h => cases h
  | [_], h => cases h
  | [a, b], _ => exact ⟨a, b, rfl⟩
  | _ :: _ :: _ :: _, h => cases h
theorem vals_sw : ∀ {zs : List V} {ws : List Value}, Vals zs ws → Vals (sw zs) (sw ws)
  | _, _, .nil => .nil
  | _, _, .cons _ .nil => .nil
  | _, _, .cons a (.cons b .nil) => .cons b (.cons a .nil)
  | _, _, .cons _ (.cons _ (.cons _ _)) => .nil
section
variable {P : Program} {w : World} {K : Frag} {mg : Str → Option Value} {base : Heap} {x p1 p2 : Str} {st : Stmt} {f : Addr} {fd : FuncData} {k : Nat} {sp : Sp} {CX : CXT}
theorem mkK2 (F : Fun K x x st f fd) (ok : FnOk P w K mg base CX k f fd [p1, p2] sp) (hC : CX = CX0 ∨ CX = L2.CX P w) (g : mg x = some (.ref f))
    (h : ∀ (kV doc pm : Value) (an : Option Addr) (cdv ct : Value) (a b : Value), bindArgs (PySem.W.fnOf x x (defArgs st) (defBody st) (defScope st) .none kV doc pm an cdv ct) ⟨[], [p2, p1].zip [a, b]⟩ = pure ([p1, p2].zip [b, a])) : CalK P w K mg base k x [p2, p1] sw sp := by
  have kp := F.kp
  obtain ⟨oc, od, kV, doc, pm, an, cdv, ct, osl, rfl, lk, hc⟩ := F.ex
  refine ⟨⟨f, _, [p1, p2], sw, CX, hC, ok, g, kp, fun s ws hl => ?_, fun _ _ r => vals_sw r⟩⟩
  obtain ⟨a, b, rfl⟩ := sw2 hl
  exact .of_eq (h kV doc pm an cdv ct a b)
theorem mkK1 (F : Fun K x x st f fd) (ok : FnOk P w K mg base CX k f fd [p1] sp) (hC : CX = CX0 ∨ CX = L2.CX P w) (g : mg x = some (.ref f))
    (h : ∀ (kV doc pm : Value) (an : Option Addr) (cdv ct : Value) (a : Value), bindArgs (PySem.W.fnOf x x (defArgs st) (defBody st) (defScope st) .none kV doc pm an cdv ct) ⟨[], [p1].zip [a]⟩ = pure ([p1].zip [a])) : CalK P w K mg base k x [p1] id sp := by
  have kp := F.kp
  obtain ⟨oc, od, kV, doc, pm, an, cdv, ct, osl, rfl, lk, hc⟩ := F.ex
  refine ⟨⟨f, _, [p1], id, CX, hC, ok, g, kp, fun s ws hl => ?_, fun _ _ r => r⟩⟩
  match ws, hl with
  | [a], _ => exact .of_eq (h kV doc pm an cdv ct a)
end
/-- an own error's class -/
def oexB (K : Frag) (C : Addr) : Bool := (match K.lookup C with
  | some ⟨.type t, _, .cls cd, sl⟩ => decide (t = "type") && (match cd.mro, sl.toList with
    | .ref C' :: bm, [_, _, _, _, some (.builtin n), _] => decide (C' = C) && (decide (n = "ValueError.__new__") && (!cd.hasDel && (cd.hasDict && HandSPX.refsVE bm)))
    | _, _ => false)
  | _ => false) && (He.eqO (findIn K (.ref C) "__setattr__") (some (some (.builtin "object.__setattr__"))) && (decide (subIn K (.ref C) (.type "BaseException") = some true) && (decide (typeIn K (.ref C) = some (.type "type")) && keepIn K (.ref C))))
theorem oexB_ok {K : Frag} {C : Addr} (h : oexB K C = true) : OexC K C := by
  obtain ⟨h1, h⟩ := He.ba h
  obtain ⟨h2, h⟩ := He.ba h
  obtain ⟨h3, h⟩ := He.ba h
  obtain ⟨h4, h5⟩ := He.ba h
  refine ⟨?_, He.eqO_ok h2, of_decide_eq_true h3, of_decide_eq_true h4, h5⟩
  clear h2 h3 h4 h5 h
  cases q : K.lookup C with
  | none => rw [q] at h1; cases h1
  | some o =>
    obtain ⟨oc, dd, dt, sl⟩ := o
    rw [q] at h1
    cases oc with
    | type t =>
      cases dt with
      | cls cd =>
        obtain ⟨nm, bases, mro, ns, qn, hd, sn, sb, ab, col, del⟩ := cd
        obtain ⟨a1, a2⟩ := He.ba h1
        obtain rfl := of_decide_eq_true a1
        clear h1 a1
        cases mro with
        | nil => cases a2
        | cons m bm =>
          cases m with
          | ref C' =>
            obtain ⟨sll⟩ := sl
            match sll, a2 with
            | [k0, k1, k2, k3, some (.builtin n), k5], a2 =>
              obtain ⟨b1, b⟩ := He.ba a2
              obtain ⟨b2, b⟩ := He.ba b
              obtain ⟨b3, b⟩ := He.ba b
              obtain ⟨b4, b5⟩ := He.ba b
              obtain rfl := of_decide_eq_true b1
              obtain rfl := of_decide_eq_true b2
              have e3 : del = false := by simpa using b3
              have e4 : hd = true := b4
              subst e3 e4
              exact ⟨nm, qn, ns, bases, bm, sn, sb, ab, col, dd, k0, k1, k2, k3, k5, rfl, b5⟩
          | _ => cases a2
      | _ => cases h1
    | _ => cases dt <;> cases h1
def clsB (K : Frag) (x : Str) : Bool := oexB K (He.ga K x) && (He.eqO (findIn K (.ref (He.ga K x)) "__init__") (some (some (.ref (He.ma K (He.ga K x) "__init__")))) && (decide (typeIn K (.ref (He.ma K (He.ga K x) "__init__")) = some (.type "function")) && (xfB K (He.ga K x) && He.eqO (findIn K (.ref (He.ga K x)) "word") (some none))))
theorem clsB_ok {K : Frag} {mg : Str → Option Value} {x : Str} (h : clsB K x = true) (g : mg x = some (.ref (He.ga K x))) : ExT K mg x (He.ga K x) (He.ma K (He.ga K x) "__init__") := by
  obtain ⟨h1, h⟩ := He.ba h
  obtain ⟨h2, h⟩ := He.ba h
  obtain ⟨h3, h⟩ := He.ba h
  obtain ⟨h4, h5⟩ := He.ba h
  exact ⟨oexB_ok h1, He.eqO_ok h2, of_decide_eq_true h3, g, xfB_ok h4, He.eqO_ok h5⟩
section
variable {K : Frag}
theorem funOf {x : Str} {st : Stmt} {f : Addr} {fd : FuncData} {qual : Str} (F : FunD K x qual (defArgs st) (defBody st) (defScope st) [] [] f fd) : Fun K x qual st f fd := by
  obtain ⟨oc, od, dV, kV, doc, pm, an, cdv, ct, osl, e, lk, hc, hd, hk⟩ := F.ex
  rcases hd with ⟨_, h⟩ | ⟨h, _⟩
  · subst h
    exact ⟨⟨oc, od, kV, doc, pm, an, cdv, ct, osl, e, lk, hc⟩, F.kp⟩
  · exact absurd rfl h
theorem funCOf {x : Str} {st : Stmt} {p : He.Defn} {fd : FuncData} {qual : Str} (F : Fun K x qual st (He.fAd K p) fd) : FunC K x qual st (He.fAd K p) fd (He.cT K p).1 := by
  obtain ⟨oc, od, kV, doc, pm, an, cdv, ct, osl, e, lk, hc⟩ := F.ex
  obtain ⟨c, rfl⟩ := He.codeIn_ref hc
  have e2 : He.codeOf K p = c := He.codeOf_eq lk (by rw [e])
  have e3 : (He.cT K p).1 = c := e2
  rw [e3]
  exact ⟨⟨oc, od, kV, doc, pm, an, ct, osl, e, lk, hc⟩⟩
end
end Own

/-! Defs that show data by repr: what is under way in C must be known where they are called (A.guards = some []), which the layer's promises leave open. A promise under that premise, its call, repr of data, the law's end. -/
namespace Gd
open PySem PySem.Spec PyProof.Rows L2
theorem deeper_guards {A : Around} {env : Env} (h : A.guards = some []) : (A.deeper env).guards = some [] := h
/-- a def that keeps sp where nothing is under way -/
structure FnG (P : Program) (w : World) (K : PySem.W.Frag) (mg : Str → Option Value) (base : Heap) (CX : CXT) (k : Nat) (f : Addr) (fd : FuncData) (ps : List Str) (sp : Sp) : Prop where
  len : ∀ vs H Q E, sp vs H Q E → vs.length = ps.length
  run : ∀ (A : Around) (outer : List Env) (s : Shared) (H : Hp) (args : Args) (us : List Value) (vs : List V) (Q : VK) (E : XK), A.guards = some [] → Room k A → Env0 P w K mg base A outer s H → BindsTo s fd args (ps.zip us) → Vals vs us → sp vs H Q E →
    codeAny (model P w) A (.call (.ref f) args) (CR CX outer P w H s Q E) s
section
variable {P : Program} {w : World} {K : PySem.W.Frag} {mg : Str → Option Value} {base : Heap}
theorem FnG.mono {CX : CXT} {j k : Nat} {f : Addr} {fd : FuncData} {ps : List Str} {sp : Sp} (F : FnG P w K mg base CX j f fd ps sp) (h : j ≤ k) : FnG P w K mg base CX k f fd ps sp :=
  ⟨F.len, fun A outer s H args us vs Q E g hr => F.run A outer s H args us vs Q E g (hr.mono h)⟩
/-- a def by its body, the guards known within -/
theorem fun_okG {x qual : Str} {st : Stmt} {f : Addr} {fd : FuncData} {N ps : List Str} {k : Nat} {sp : Sp} (F : Fun K x qual st f fd) (S : FnScope N ps (defScope st)) (len : ∀ vs H Q E, sp vs H Q E → vs.length = ps.length)
    (hbody : ∀ (cdv : Value) (A : Around) (outer : List Env) (s : Shared) (H : Hp) (vs : List V) (Q : VK) (E : XK), (A.deeper (envOfC qual (defScope st) s.heap.objs.size f cdv)).guards = some [] → Room k (A.deeper (envOfC qual (defScope st) s.heap.objs.size f cdv)) → sp vs H Q E →
      ∃ t, PSs (cxOf CX0 P w K mg base N qual (defScope st) f cdv A outer s H E).nox (defBody st) t ∧ t { nx := fun _ H' => Q .non H', rt := Q } (L2.start N vs) H) : FnG P w K mg base CX0 (k + 1) f fd ps sp := by
  obtain ⟨oc, od, kV, doc, pm, an, cdv, ct, osl, rfl, lk, hcd⟩ := F.ex
  refine ⟨len, fun A outer s H args us vs Q E g hr e0 hb r hsp => ?_⟩
  refine LamX.run_ofS lk hcd S hr e0 hb r (len _ _ _ _ hsp) fun hr' => ?_
  obtain ⟨t, h, q⟩ := hbody cdv A outer s H vs Q E (deeper_guards g) hr' hsp
  exact ⟨t, h.nox, q⟩
/-- such a def by its name -/
structure CalG (P : Program) (w : World) (K : PySem.W.Frag) (mg : Str → Option Value) (base : Heap) (k : Nat) (x : Str) (sp : Sp) : Prop where
  ex : ∃ (f : Addr) (fd : FuncData) (ps : List Str), FnG P w K mg base CX0 k f fd ps sp ∧ mg x = some (.ref f) ∧ PySem.W.keepIn K (.ref f) = true ∧ Binds K fd ps []
end
section
variable {X : Cx} {k j : Nat} {x : Str} {sp : Sp} {e : Expr} {es : List Expr} {t : TA} {p pos : Pos}
theorem pe_cG (hgd : X.A.guards = some []) (c : CalG X.prog X.w X.K X.mg X.base k x sp) (hr : Room j X.A) (hk : k ≤ j) (hg : Gl X x) (ha : PA X (e :: es) t)
    (hdb : (x == ("__debug__" : Str)) = false := by decide) (he : starEach (e :: es) X.env = (false, eval e X.env) :: starEach es X.env := by rfl) (hpl : (backTo pos (starEach es X.env)).any (·.1) = false := by rfl) :
    PE X (.Call (.Name x p) (e :: es) [] pos) (tCall sp [] L2.E0 t) := by
  obtain ⟨f, fd, ps, F, hm, kp, b⟩ := c.ex
  refine ⟨fun pins s σ H Q I h => ?_⟩
  refine wpAny_Call_Name_kw (ld_glob I hg hm ?_ hdb)
  refine PySem.W.callWith_K (h₀ := X.base) I.ok.mod.kin kp (thn (ha.run pos pins s σ H _ I h) fun us s1 hz => ?_) he hpl
  obtain ⟨vs, H1, I1, r, q⟩ := hz
  have q : sp (vs ++ []) H1 Q L2.E0 := q
  rw [List.append_nil] at q
  have hl : us.length = ps.length := r.length.symm.trans (F.len _ _ _ _ q)
  refine ⟨I1.kIn, wpAny_call (codeAny_mono ((F.mono hk).run X.A X.stack s1 H1 ⟨us, []⟩ us vs Q L2.E0 hgd hr I1.env0 ?_ r q) fun r3 s3 hq => ?_)⟩
  · have := b s1 us I1.kIn (by rw [List.append_nil]; exact hl)
    rw [List.append_nil] at this
    exact this
  · cases r3 with
    | error e => exact (show False from hq).elim
    | ok fl =>
      cases fl with
      | ret u => exact I1.after hq
      | next => exact hq.elim
      | brk => exact hq.elim
      | cont => exact hq.elim
/-- repr of a tuple, a list of data -/
def rShow (K : PySem.W.Frag) : List V → Hp → VK → Prop := fun xs H Q => ∃ (a : Addr) (d : PyData), xs = [.ref a] ∧ Dp K H (.ref a) d ∧ d.showable = true ∧ d.hasDict = false ∧ d.depth ≤ 60 ∧ d.shown.length ≤ sizeLine ∧ Q (.str d.shown) H
theorem call_show (hgd : X.A.guards = some []) (hu : X.A.units + 64 < cLine) : CallR X (.builtin "repr") (rShow X.K) := by
  intro pins s σ H xs us Q I r h
  obtain ⟨a, d, rfl, hd, hs, hn, hp, hz, q⟩ := h
  obtain ⟨u, rfl, r1⟩ := vals1 r
  cases (show u = Value.ref a from r1)
  obtain ⟨as, rd⟩ := Dp.reads I d (.ref a) (.ref a) hd rfl
  refine repr_of_reads' rd hs (fun e => by rw [hn] at e; cases e) hgd (by omega) (fun _ _ e => e) (fun h' u tk hk => ?_) hz
  exact ⟨.str d.shown, H, I.kept (t' := tk) hk, ⟨u, rfl⟩, q⟩
end
end Gd

/-! enumerate of a tuple, a loop over a list or a tuple, math.lcm. -/
namespace Gd
open PySem PySem.Spec PyProof.Rows L2
/-- the new enumerate object over what v begins as -/
abbrev enO (h : Heap) : Obj := { cls := .type "enumerate", data := .fields #[.none, .bool false, .ref h.objs.size, rawInt 0, .none, .none] }
theorem enB_new {v : Value} {o : Obj} {H : Heap → Prop} (B : Begins v o H) :
    Meets (Builtin.«enumerate.__new__» ⟨[.type "enumerate", v], []⟩) (fun _ R s => H s.heap ∧ R (.ok (.ret (.ref (s.heap.push o).objs.size))) { s with heap := (s.heap.push o).push (enO s.heap) }) :=
  .of_wp fun P W A R s z => by
    obtain ⟨hp, g, d, tk, os⟩ := s
    obtain ⟨hB, q⟩ := z
    have sb := sub_enumerate
    have begin : ∀ {A2 : Around} {E : Value → Shared → Prop} {Q : Value → Shared → Prop}, Q (.ref hp.objs.size) ⟨hp.push o, g, d, tk, os⟩ → wpAny (model P W) A2 (pyIter v) Q E ⟨hp, g, d, tk, os⟩ :=
      fun y => B.iter P W _ _ ⟨hp, g, d, tk, os⟩ _ hB y
    wp_walk using begin
    refine wpAny_stack_any fun stk => wpAny_pure ?_
    split
    all_goals first
      | (wp_walk using begin; exact ⟨_, rfl, q⟩)
      | (rename_i c _ _ _ _ _
         cases (c == Value.type "enumerate") <;> (wp_walk using begin; exact ⟨_, rfl, q⟩))
theorem call_enB {P : Program} {w : World} {A : Around} {E : Value → Shared → Prop} {s : Shared} {v : Value} {o : Obj} {H : Heap → Prop} {Q : Value → Shared → Prop} (B : Begins v o H) (hB : H s.heap)
    (q : ∀ h', IsEnum h' (s.heap.objs.size + 1) s.heap.objs.size 0 .none → h'.get? s.heap.objs.size = some o → (∀ b x, s.heap.get? b = some x → h'.get? b = some x) → Q (.ref (s.heap.objs.size + 1)) { s with heap := h' }) :
    wpAny (model P w) A (call (.type "enumerate") [v]) Q E s := by
  refine callType_new F.called_enumerate (by decide) (F.typeCall_enumerate_1 _) (F.newCall_enumerate_1 _) (fun obj => F.args_object_init_2 obj _) F.entry_enumerate_new (enB_new B) ⟨hB, ?_⟩
  have sz : (s.heap.push o).objs.size = s.heap.objs.size + 1 := Heap.size_push ..
  have isE : IsEnum ((s.heap.push o).push (enO s.heap)) (s.heap.push o).objs.size s.heap.objs.size 0 .none := Heap.get?_push_size _ rfl
  have q2 := q ((s.heap.push o).push (enO s.heap)) (by rw [← sz]; exact isE) (Heap.get?_push_of_some _ (Heap.get?_push_size _ B.free)) fun b x e => Heap.get?_push_of_some _ (Heap.get?_push_of_some _ e)
  rw [← sz] at q2
  exact ⟨⟨_, isE, rfl⟩, q2⟩
/-- the tuple at a as it stands at each turn, each item in a new pair -/
def ItE (K : PySem.W.Frag) (a : Addr) : It :=
  ⟨fun i H => ∃ (xs : List V) (x : V), SqT K H a xs ∧ xs[i]? = some x, fun i H v H' => ∃ T x, v = .ref T ∧ H T = none ∧ H' = upd H T (.tup [.int (i : Nat), x]) ∧ ∀ xs, SqT K H a xs → xs[i]? = some x, fun i H => ∃ xs : List V, SqT K H a xs ∧ xs.length = i⟩
theorem turn_enT {P : Program} {w : World} {K : PySem.W.Frag} {elts : List Expr} {kk : Nat} {tpos : Pos} (a e it : Addr) :
    Turn P w K (.Tuple elts kk tpos) (ItE K a) [e, it] e (fun i h => (∃ old, IsEnum h e it ((i : Nat) : Int) old) ∧ h.IsTupleIter it a i ∧ e ≠ it) where
  mem := List.mem_cons_self ..
  obj := fun i h st b hb => by
    obtain ⟨⟨old, hE⟩, ⟨o, ho, hc, hd⟩, _⟩ := st
    rcases List.mem_cons.mp hb with rfl | hb
    · exact ⟨_, hE, fun v q => nomatch q⟩
    · obtain rfl := List.mem_singleton.mp hb
      exact ⟨o, ho, fun v q => by rw [hd] at q; cases q⟩
  keep := fun i h h' st k => by
    obtain ⟨⟨old, hE⟩, hI, ne⟩ := st
    exact ⟨⟨old, k _ (List.mem_cons_self ..) _ hE⟩, hI.at fun o q => k _ (List.mem_cons_of_mem _ (List.mem_cons_self ..)) o q, ne⟩
  item := by
    intro X hP hw hK hc i pins s σ H E I fps st gg
    subst hP hw hK
    obtain ⟨⟨old, hE⟩, hI, ne⟩ := st
    obtain ⟨xs, x, hq, hx⟩ := gg
    obtain ⟨its, rv, pT, hz⟩ := I.tuple hq
    have pT : s.heap.IsTuple a its.toArray := pT
    obtain ⟨u, hu, ru⟩ := rv.get hx
    have ln := rv.length
    have li : i < its.length := by
      rw [← ln]
      exact (List.getElem?_eq_some_iff.mp hx).1
    obtain ⟨oa, ea, ca, na, da⟩ := id pT
    obtain ⟨oi, ei, ci, di⟩ := id hI
    have ae : e ≠ a := fun z => by
      have y : s.heap.get? a = some _ := z ▸ hE
      rw [ea] at y
      cases y
      cases da
    have ai : a ≠ it := fun z => by
      rw [z, ei] at ea
      cases ea
      rw [di] at da
      cases da
    have D := Draws.tuple (prog := X.prog) (w := X.w) (A := X.A.in1) (I.ok.hd hc) it a ai its.toArray
    have le : e < s.heap.objs.size := Heap.lt_size hE
    have lt : it < s.heap.objs.size := Heap.lt_size ei
    refine wpAny_pyNext_enum_itemD D hE ⟨hI, pT⟩ (by simpa using li) ne (by simp only [List.mem_cons, List.not_mem_nil, or_false, not_or]; exact ⟨ne, ae⟩) fun y h1 tk hy out st1 new _ kp => ?_
    obtain rfl : u = y := Option.some.inj ((by simpa using hu : its.toArray[i]? = some u).symm.trans hy)
    refine ⟨_, rfl, wpAny_letOwnedTupleGo_enum (s := { s with heap := h1, toks := tk + 1 }) out fun h2 in2 sb => ?_⟩
    have new2 : h2.get? s.heap.objs.size = some { cls := .type "tuple", data := .seq #[.int i tk, u] } := (sb.2 _ (Nat.ne_of_gt le)).trans new
    have fresh := I.hok.fresh (Nat.le_refl s.heap.objs.size)
    have pair : ObjOk X.prog X.w (upd H s.heap.objs.size (.tup [.int (i : Nat), x])) h2 s.heap.objs.size (.tup [.int (i : Nat), x]) :=
      ⟨show 2 ≤ sizeLine by decide, [.int i tk, u], .cons ⟨_, rfl⟩ (.cons ru .nil), ⟨_, new2, rfl, _, rfl⟩⟩
    have I2 : Inv X pins σ (upd H s.heap.objs.size (.tup [.int (i : Nat), x])) { s with heap := h2, toks := tk + 1 } :=
      I.turnedNew (ch := [e, it]) (fun b ob nb q => by
        have n1 : b ≠ e := fun z => nb (z ▸ List.mem_cons_self ..)
        have n2 : b ≠ it := fun z => nb (z ▸ List.mem_cons_of_mem _ (List.mem_cons_self ..))
        exact (sb.2 b n1).trans (kp b ob n1 n2 q)) fps (Nat.le_refl _) pair
    refine ⟨.ref s.heap.objs.size, _, I2, rfl, ⟨_, x, rfl, fresh, rfl, fun ys hy => by rw [I.tuple_inj hy hq]; exact hx⟩, ⟨⟨u, by rw [Int.natCast_succ]; exact in2⟩, st1.1.at fun o q => (sb.2 it (Ne.symm ne)).trans q, ne⟩, fun b hb => ?_⟩
    have lb : b < s.heap.objs.size := by
      rcases List.mem_cons.mp hb with rfl | h
      · exact le
      · rw [List.mem_singleton.mp h]; exact lt
    rw [upd_ne (Nat.ne_of_lt lb)]
    exact (fps b hb).1
  done := by
    intro X hP hw hK hc i pins s σ H E I fps st gg
    subst hP hw hK
    obtain ⟨⟨old, hE⟩, hI, ne⟩ := st
    obtain ⟨xs, hq, hx⟩ := gg
    obtain ⟨its, rv, pT, hz⟩ := I.tuple hq
    have pT : s.heap.IsTuple a its.toArray := pT
    obtain ⟨oa, ea, ca, na, da⟩ := id pT
    obtain ⟨oi, ei, ci, di⟩ := id hI
    have ai : a ≠ it := fun z => by
      rw [z, ei] at ea
      cases ea
      rw [di] at da
      cases da
    have D := Draws.tuple (prog := X.prog) (w := X.w) (A := X.A.in1) (I.ok.hd hc) it a ai its.toArray
    have ln := rv.length
    have en : i = its.toArray.size := by rw [List.size_toArray, ← ln, hx]
    obtain ⟨f0, f1, f2, f3, f4, f5⟩ := fps it (List.mem_cons_of_mem _ (List.mem_cons_self ..))
    exact wpAny_pyNext_enum_endD D hE ⟨en ▸ hI, pT⟩ fun h1 eb => ⟨rfl, I.turned (t' := s.toks) (fun b o hb q => eb b o hb q) f0 f1 f3 f4 f5⟩
  self := fun A i s Q E st h => let ⟨⟨_, hE⟩, _⟩ := st; wpAny_pyIter_enum hE h
def iEnT (K : PySem.W.Frag) (ta : TA) : TI := fun σ H R => ta σ H fun vs H1 => ∃ a xs, vs = [.ref a] ∧ SqT K H1 a xs ∧ R (ItE K a) H1
theorem pi_enT {X : Cx} {e : Expr} {ta : TA} {p pos tpos : Pos} {elts : List Expr} {kk : Nat} (hg : Gl X "enumerate") (hm : X.mg "enumerate" = none) (ha : PA X [e] ta) (hs : starEach [e] X.env = [(false, eval e X.env)] := by rfl) :
    PI X (.Tuple elts kk tpos) (.Call (.Name "enumerate" p) [e] [] pos) (iEnT X.K ta) := by
  refine ⟨fun pins s σ H R I h => ?_⟩
  refine Call_ (ld_blt I hg hm boot_enumerate (PyProof.Rows.callWith_type1 (thn (ha.run pos pins s σ H _ I h) fun us s1 ⟨vs, H1, I1, r1, a, xs, ev, hq, q⟩ => ?_) hs rfl))
  subst ev
  obtain ⟨u, rfl, r⟩ := vals1 r1
  cases r
  obtain ⟨its, rv, pT, hz⟩ := I1.tuple hq
  have pT : s1.heap.IsTuple a its.toArray := pT
  refine call_enB (begins_tuple a its.toArray) pT fun h1 isE itO kp => wpAny_pyIter_enum isE ?_
  refine ⟨s1.heap.objs.size + 1, [s1.heap.objs.size + 1, s1.heap.objs.size], _, _, H1, rfl, I1.kept (t' := s1.toks) kp, turn_enT a _ _, ⟨⟨.none, isE⟩, ⟨_, itO, rfl, rfl⟩, Nat.succ_ne_self _⟩, fun b hb => ?_, q⟩
  have le : s1.heap.objs.size ≤ b := by
    rcases List.mem_cons.mp hb with rfl | h
    · exact Nat.le_succ _
    · rw [List.mem_singleton.mp h]; exact Nat.le_refl _
  exact I1.fpOk le (I1.hok.fresh le)
/-- such a loop, by one word a turn -/
theorem for_enT {K : PySem.W.Frag} {a : Addr} {xs : List V} {g : TG} {tb : TS} {D : Ends} {σ : L2.St} {H : Hp} (Pv : Nat → L2.St → Hp → Prop) (h0 : Pv 0 σ H) (hq : ∀ i σ H, Pv i σ H → SqT K H a xs)
    (hs : ∀ (i : Nat) (x : V) (T : Addr) (σ : L2.St) (H : Hp), xs[i]? = some x → Pv i σ H → H T = none → g (.ref T) σ (upd H T (.tup [.int (i : Nat), x])) fun σ2 H2 => tb { D with nx := Pv (i + 1), ct := Pv (i + 1), bk := D.nx } σ2 H2) (hd : ∀ σ H, Pv xs.length σ H → D.nx σ H) :
    ∃ W : Nat → Nat → L2.St → Hp → Prop, (∃ m, W 0 m σ H) ∧ ∀ i m σ H, W i m σ H →
      ((ItE K a).stop i H ∧ D.nx σ H) ∨ ((ItE K a).go i H ∧ ∃ N : L2.St → Hp → Prop, (∀ σ' H', N σ' H' → ∃ m', m' < m ∧ W (i + 1) m' σ' H') ∧ ∀ v H', (ItE K a).yld i H v H' → g v σ H' fun σ2 H2 => tb { D with nx := N, ct := N, bk := D.nx } σ2 H2) := by
  refine ⟨fun i m σ H => m = xs.length - i ∧ i ≤ xs.length ∧ Pv i σ H, ⟨xs.length, rfl, Nat.zero_le _, h0⟩, fun i m σ H ⟨em, le, p⟩ => ?_⟩
  subst em
  have q := hq i σ H p
  by_cases lt : i < xs.length
  · refine .inr ⟨⟨xs, _, q, List.getElem?_eq_getElem lt⟩, Pv (i + 1), fun σ' H' p' => ⟨_, by omega, rfl, lt, p'⟩, fun v H' y => ?_⟩
    obtain ⟨T, x, rfl, nT, rfl, f⟩ := y
    exact hs i x T σ H (f xs q) p nT
  · obtain rfl : i = xs.length := by omega
    exact .inl ⟨⟨xs, q, rfl⟩, hd σ H p⟩
/-- a loop over a list or a tuple -/
def iSeq (K : PySem.W.Frag) (tl : TE) : TI := fun σ H R => tl σ H fun x H1 => ∃ a, x = .ref a ∧ (((∃ xs, SqL K H1 a xs) ∧ R (Itl K a) H1) ∨ ((∃ xs, SqT K H1 a xs) ∧ R (Itt K a) H1))
theorem pi_seq {X : Cx} {tg l : Expr} {tl : TE} (hl : PE X l tl) : PI X tg l (iSeq X.K tl) := by
  refine ⟨fun pins s σ H R I h => ?_⟩
  refine thn (hl.run pins s σ H _ I h) fun v s1 ⟨x, H1, I1, r1, a, e, q1⟩ => ?_
  subst e
  cases r1
  have fp : ∀ b ∈ [s1.heap.objs.size], FpOk X pins H1 b := fun b hb => by
    rw [List.mem_singleton.mp hb]
    exact I1.fpOk (Nat.le_refl _) (I1.hok.fresh (Nat.le_refl _))
  rcases q1 with ⟨⟨xs, hq⟩, q⟩ | ⟨⟨xs, hq⟩, q⟩
  · obtain ⟨its, rv, pl, hz⟩ := I1.list hq
    exact wpAny_pyIter_list pl.isList ⟨_, _, _, _, H1, rfl, I1.kept (t' := s1.toks) fun b o y => Heap.get?_push_of_some _ y, turn_list a _, ⟨_, Heap.get?_push_size _ rfl, rfl, rfl⟩, fp, q⟩
  · obtain ⟨its, rv, pl, hz⟩ := I1.tuple hq
    exact wpAny_pyIter_tuple (show s1.heap.IsTuple a its.toArray from pl) ⟨_, _, _, _, H1, rfl, I1.kept (t' := s1.toks) fun b o y => Heap.get?_push_of_some _ y, turn_tuple a _, ⟨_, Heap.get?_push_size _ rfl, rfl, rfl⟩, fp, q⟩
def rLcm : List V → Hp → VK → Prop := fun vs H Q => ∃ a b : Int, vs = [.int a, .int b] ∧ a.natAbs < 2 ^ 64 ∧ b.natAbs < 2 ^ 64 ∧ Q (.int ((Nat.lcm a.natAbs b.natAbs : Nat) : Int)) H
theorem cr_lcm {X : Cx} : CallR X (.builtin "math.lcm") rLcm := by
  intro pins s σ H vs us Q I r h
  obtain ⟨a, b, rfl, ha, hb, q⟩ := h
  obtain ⟨t, u, rfl⟩ := Vals.int2 r
  have e1 : Nat.lcm 1 a.natAbs = a.natAbs := Nat.lcm_one_left _
  refine PySem.W.mg_lcm ha hb ?_ ?_
  · rw [e1]
    have : Nat.lcm a.natAbs b.natAbs < 2 ^ 128 := by
      have h1 : Nat.lcm a.natAbs b.natAbs ≤ a.natAbs * b.natAbs := Nat.div_le_self _ _
      have h2 : a.natAbs * b.natAbs < 2 ^ 64 * 2 ^ 64 := Nat.mul_lt_mul'' ha hb
      exact Nat.lt_of_le_of_lt h1 h2
    exact Nat.lt_of_lt_of_le (PySem.Flt.log2_lt_of (by decide) (show ((Nat.lcm a.natAbs b.natAbs : Nat) : Int).natAbs < 2 ^ 128 from this)) (by decide)
  · rw [e1]
    exact ⟨.int _, H, I.tok _, ⟨_, rfl⟩, q⟩
end Gd

/-! The end of a law whose promise wants to know what is under way: it is called by the judge's caller, where nothing is. -/
namespace Gd
open PySem PySem.Spec PyProof.Rows L2 LamX
/-- what is tracked ahead of the law's call: the tables ts, and the script at a unless it is of the written part -/
def h0 (ts : List Addr) (w : Bool) (a : Addr) (o : Obj) (xs : List V) : Hp := fun b => if b ∈ ts then some (.tbl #[]) else if w = true ∧ b = a then some (.frz o (.lst xs)) else none
section
variable {ts : List Addr} {w : Bool} {a b : Addr} {o : Obj} {xs : List V}
theorem h0_tab (h : b ∈ ts) : h0 ts w a o xs b = some (.tbl #[]) := if_pos h
theorem h0_at (h : a ∉ ts) (hw : w = true) : h0 ts w a o xs a = some (.frz o (.lst xs)) := by unfold h0; rw [if_neg h, if_pos ⟨hw, rfl⟩]
theorem h0_none (h : b ∉ ts) (h2 : ¬ (w = true ∧ b = a)) : h0 ts w a o xs b = none := by unfold h0; rw [if_neg h, if_neg h2]
theorem h0_cases (b : Addr) : (b ∈ ts ∧ h0 ts w a o xs b = some (.tbl #[])) ∨ (b ∉ ts ∧ w = true ∧ b = a ∧ h0 ts w a o xs b = some (.frz o (.lst xs))) ∨ (b ∉ ts ∧ ¬ (w = true ∧ b = a) ∧ h0 ts w a o xs b = none) := by
  by_cases h : b ∈ ts
  · exact .inl ⟨h, h0_tab h⟩
  · by_cases h2 : w = true ∧ b = a
    · exact .inr (.inl ⟨h, h2.1, h2.2, by obtain ⟨hw, rfl⟩ := h2; exact h0_at h hw⟩)
    · exact .inr (.inr ⟨h, h2, h0_none h h2⟩)
end
/-- what is known of the law's promise at the head's heap h -/
def LawG (l : PySem.W.OpenLaw) (w : World) (K : PySem.W.Frag) (k n : Nat) (x : Str) (mg : Str → Option Value) (fa : Addr) (h : Heap) : Prop :=
  ∃ (fd : FuncData) (cs : List (Addr × Addr)) (sp : Sp), (∀ p ∈ cs, h.get? p.2 = some { cls := .none, data := .fields #[] }) ∧ (∀ p ∈ cs, K.lookup p.2 = none) ∧ (∀ p ∈ cs, PySem.W.CodeHd h p.1 p.2) ∧ (∀ (s : Shared) (u : Value), BindsTo s fd ⟨[u], []⟩ [(x, u)]) ∧
    (∀ (H : Hp) (a : Addr) (ns : List Int), ns.length ≤ n → (∀ z ∈ ns, Builtin.Int.intBits z ≤ 1048576) → (∀ p ∈ cs, H p.2 = some (.tbl #[])) → SqL K H a (ns.map V.int) → sp [.ref a] H (fun v _ => v = .bl true) fun _ _ _ => False) ∧
    ∀ base : Heap, K.In base → base.Ns mainGlobals mg → (∀ p ∈ cs, TabB base mg p.1 p.2) → FnG l.prog w K mg base CX0 k fa fd [x] sp
section
variable {P : Program} {w : World} {K : PySem.W.Frag} {mg mb : Str → Option Value} {k : Nat} {fa a : Addr} {cs : List (Addr × Addr)} {fd : FuncData} {x : Str} {sp : Sp} {s₁ : Shared} {vs : List Value} {ns : List Int}
theorem law_callG (KX : K.In s₁.heap) (hns : s₁.heap.Ns mainGlobals mg) (hb : s₁.heap.Ns builtinsNs mb) (hbb : ∀ x : Str, x ≠ "__name__" → mb x = bootBuiltins x) (hlim : s₁.heap.NoLimit) (hg : s₁.gens = #[])
    (hT : ∀ p ∈ cs, s₁.heap.get? p.2 = some { cls := .none, data := .fields #[] }) (nT : ∀ p ∈ cs, K.lookup p.2 = none) (C : ∀ p ∈ cs, PySem.W.CodeHd s₁.heap p.1 p.2)
    (hbm : ∃ (bm : Addr) (ob : Obj), mg "__builtins__" = some (.ref bm) ∧ bm ≠ builtinsNs ∧ s₁.heap.get? bm = some ob ∧ ob.cls = .type "module" ∧ ob.dict = some builtinsNs ∧ ob.data = .plain)
    (ha : s₁.heap.get? a = some { cls := .type "list", data := .seq vs.toArray }) (hi : IntsAre vs ns) (hl : ns.length ≤ sizeLine) (hr : Room k callerA)
    (F : ∀ base : Heap, K.In base → base.Ns mainGlobals mg → (∀ p ∈ cs, TabB base mg p.1 p.2) → FnG P w K mg base CX0 k fa fd [x] sp) (hbind : ∀ (s : Shared) (u : Value), BindsTo s fd ⟨[u], []⟩ [(x, u)])
    (hsp : ∀ H : Hp, (∀ p ∈ cs, H p.2 = some (.tbl #[])) → SqL K H a (ns.map V.int) → sp [.ref a] H (fun v _ => v = .bl true) fun _ _ _ => False) :
    codeAny (model P w) callerA (.call (.ref fa) ⟨[.ref a], []⟩) (fun r s' => r = .ok (.ret (.bool true)) ∧ OldK s₁.heap s'.heap ∧ s'.os = s₁.os ∧ AllBare s'.gens) s₁ := by
  have rv := vals_ints hi
  have nlen := hi.length
  let ts := cs.map (·.2)
  have tabAt : ∀ b, b ∈ ts → s₁.heap.get? b = some { cls := .none, data := .fields #[] } ∧ K.lookup b = none := fun b hb => by
    obtain ⟨p, hp, rfl⟩ := List.mem_map.mp hb
    exact ⟨hT p hp, nT p hp⟩
  have inT : ∀ p ∈ cs, p.2 ∈ ts := fun p hp => List.mem_map.mpr ⟨p, hp, rfl⟩
  have aT : a ∉ ts := fun z => by
    have q := (tabAt a z).1
    rw [ha] at q
    exact absurd (congrArg Obj.data (Option.some.inj q)) (fun z => by cases z)
  let wr : Bool := (K.lookup a).isNone
  let H : Hp := h0 ts wr a { cls := .type "list", data := .seq vs.toArray } (ns.map V.int)
  -- the script is read
  have hS : SqL K H a (ns.map V.int) := by
    cases hk : K.lookup a with
    | none => exact .inl (.inr ⟨_, h0_at aT (by show (K.lookup a).isNone = true; rw [hk]; rfl)⟩)
    | some o =>
      have e := KX a o hk
      rw [ha] at e
      cases e
      exact .inr ⟨_, vs.toArray, _, hk, rfl, rfl, rfl, by rw [List.size_toArray, nlen]; exact hl, by simpa using rv⟩
  have hok : HOk P w H s₁.heap := fun b u e => by
    rcases h0_cases (ts := ts) (w := wr) (a := a) (o := { cls := .type "list", data := .seq vs.toArray }) (xs := ns.map V.int) b with ⟨h, q⟩ | ⟨_, _, rfl, q⟩ | ⟨_, _, q⟩
    · cases q.symm.trans e
      exact (tabAt b h).1
    · cases q.symm.trans e
      exact ⟨ha, by rw [List.length_map]; exact hl, vs, _, rv, ha⟩
    · cases q.symm.trans e
  -- an object that is neither a table nor the script is untracked
  have free : ∀ {b : Addr} {o : Obj}, s₁.heap.get? b = some o → o.data ≠ .fields #[] → (∀ us n, o.data ≠ .seq us n) → H b = none := fun {b o} e h1 h2 => by
    refine h0_none (fun z => ?_) (fun z => ?_)
    · rw [(tabAt b z).1] at e
      cases e
      exact h1 rfl
    · rw [z.2, ha] at e
      cases e
      exact h2 _ _ rfl
  have stay : ∀ {b : Addr} {o : Obj}, s₁.heap.get? b = some o → o.data ≠ .fields #[] → (∀ us n, o.data ≠ .seq us n) → (hidT s₁.heap H).get? b = some o := fun e h1 h2 => hidT_get e (free e h1 h2)
  have nsStay : ∀ {b : Addr} {m : Str → Option Value}, s₁.heap.Ns b m → (hidT s₁.heap H).Ns b m := fun {b m} ⟨o, es, ep, e, d, r⟩ => ⟨o, es, ep, stay e (fun z => by rw [d] at z; cases z) (fun _ _ z => by rw [d] at z; cases z), d, r⟩
  have KB : K.In (hidT s₁.heap H) := fun b o e => hidT_get (KX b o e) (by
    refine h0_none (fun z => ?_) (fun z => ?_)
    · rw [(tabAt b z).2] at e; cases e
    · have hw : (K.lookup a).isNone = true := z.1
      rw [z.2] at e
      rw [e] at hw; cases hw)
  have hM : L2.Mod K mg (hidT s₁.heap H) := by
    obtain ⟨mc, h1, h2⟩ := hlim
    exact ⟨KB, nsStay hns, ⟨mb, nsStay hb, hbb⟩, ⟨mc, nsStay h1, h2⟩⟩
  have TB : ∀ p ∈ cs, TabB (hidT s₁.heap H) mg p.1 p.2 := fun p hp => by
    have hTp := hT p hp
    refine ⟨?_, ?_, ?_⟩
    · obtain ⟨o, us, file, tf, flags, tg, inF, text, tt, e1, r1, r2, r3, r4, r5, r6, r7, r8, hne⟩ := C p hp
      exact ⟨o, us, file, tf, flags, tg, inF, text, tt, stay e1 (fun z => by rw [r2] at z; cases z; simp at r3) (fun _ _ z => by rw [r2] at z; cases z), r1, r2, r3, r4, r5, r6, r7, r8, hne⟩
    · obtain ⟨bm, ob, b1, b2, b3, b4, b5, b6⟩ := hbm
      refine ⟨bm, ob, b1, b2, fun q => ?_, fun q => ?_, stay b3 (fun z => by rw [b6] at z; cases z) (fun _ _ z => by rw [b6] at z; cases z), b4, b5, b6⟩
      · obtain ⟨o, es, ep, e, hd, _⟩ := hns
        rw [q, e] at b3
        cases b3
        rw [hd] at b6; cases b6
      · rw [q, hTp] at b3
        cases b3
        cases b6
    · intro z
      obtain ⟨o, es, ep, e, hd, _⟩ := hns
      rw [z, hTp] at e
      cases e
      cases hd
  have e0 : Env0 P w K mg (hidT s₁.heap H) callerA [] s₁ H := ⟨rfl, hM, fun b o e => of_hidT e, Nat.le_of_eq (hidT_size _ _), trivial, fun b z => absurd z (by simp [frs]), hok, .of_eq hg⟩
  refine codeAny_mono ((F _ KB (nsStay hns) TB).run callerA [] s₁ H ⟨[.ref a], []⟩ [.ref a] [.ref a] _ _ rfl hr e0 (hbind s₁ (.ref a)) (.cons rfl .nil) (hsp H (fun p hp => h0_tab (inT p hp)) hS)) fun r s' h => ?_
  cases r with
  | error e => exact (show False from h).elim
  | ok fl =>
    cases fl with
    | next => exact False.elim h
    | brk => exact False.elim h
    | cont => exact False.elim h
    | ret u =>
      obtain ⟨v, H', os, bare, un, hok', r', q⟩ := h
      obtain rfl : v = .bl true := q
      obtain rfl : u = Value.bool true := r'
      have kept : ∀ b o, b ∉ ts → s₁.heap.get? b = some o → s'.heap.get? b = some o := fun b o nb e => by
        rcases h0_cases (ts := ts) (w := wr) (a := a) (o := { cls := .type "list", data := .seq vs.toArray }) (xs := ns.map V.int) b with ⟨h, _⟩ | ⟨_, _, rfl, q⟩ | ⟨_, _, q⟩
        · exact absurd h nb
        · obtain ⟨e2, _⟩ := hok' b _ (un.frzs b _ _ q)
          rw [ha] at e
          rw [← e]; exact e2
        · exact un.keep b o e q (by simp [frs]) (by simp)
      have grown : ∀ p ∈ cs, ∃ more : Array Value, s'.heap.get? p.2 = some { cls := .none, data := .fields more } := fun p hp => by
        obtain ⟨more, z⟩ := un.tbls p.2 #[] (h0_tab (inT p hp))
        exact ⟨_, hok' p.2 _ z⟩
      refine ⟨rfl, ⟨fun b o e => ?_, fun b o e => ?_⟩, os, bare⟩
      · by_cases hbt : b ∈ ts
        · obtain ⟨p, hp, rfl⟩ := List.mem_map.mp hbt
          obtain ⟨more, hm⟩ := grown p hp
          rw [hT p hp] at e
          cases e
          exact .inr (.inl ⟨((C p hp).tab (hT p hp)).isCodeTable, rfl, #[], more, rfl, by rw [Array.empty_append]; exact hm⟩)
        · exact .inl (kept b o hbt e)
      · by_cases hbt : b ∈ ts
        · obtain ⟨p, hp, rfl⟩ := List.mem_map.mp hbt
          obtain ⟨more, hm⟩ := grown p hp
          exact ⟨_, hm⟩
        · exact ⟨o, kept b o hbt e⟩
end
theorem walk_ofG {l : PySem.W.OpenLaw} {n k : Nat} {q : Program} {loose : List Str} {XP : (Str → Option Value) → Heap → Prop} {YP : World → Heap → Prop} {d : DefRec} {x : Str}
    (hn : l.most = some n) (hn2 : n ≤ sizeLine) (hdf : d.params.defaults = []) (hr : Room k callerA)
    (F : ∀ (w : World) (mg : Str → Option Value) (fa : Addr) (h : Heap), YP w h → h.Ns mainGlobals mg → mg d.name = some (.ref fa) → ∃ K : PySem.W.Frag, K.In h ∧ LawG l w K k n x mg fa h) :
    PySem.W.WalkO q loose XP YP l.row.toRowW d [] (fun f vs => PySem.call f vs) := by
  refine Att.attach_callB hn hdf fun w s₀ s₁ mg mb fa o pm cd doc a vs ns G Y ho hd hcd hmg hobj hints hlen hbits hg => ?_
  obtain ⟨K, KX, fd, cs, sp, hT, nT, C, hb, hsp, hF⟩ := F w mg fa _ Y G.T.g hmg
  exact law_callG KX G.T.g G.T.b G.T.builtins G.T.nolimit hg hT nT C G.T.bmain hobj hints (Nat.le_trans hlen hn2) hr hF hb (fun H hH hS => hsp H a ns hlen hbits hH hS)
end Gd

/-! a comprehension over zip of two tuples; a statement that is not reached; in of a dict. -/
namespace Gd
open PySem PySem.Spec PyProof.Rows L2
theorem lc_zipM {K : PySem.W.Frag} {a b : Addr} {xs ys : List V} {g : TG} {tt : TT} {te : TE} {vs : List Nat} {σ : L2.St} {H1 : Hp} {D : Addr} {Qd : Hp → Prop} (n : Nat) (hn : n = min xs.length ys.length) (Pv : Nat → Hp → Prop) (h0 : Pv 0 (upd H1 D (.lst []))) (hq : ∀ i H, Pv i H → SqT K H a xs ∧ SqT K H b ys)
    (hs : ∀ (i : Nat) (x y : V) (T : Addr) (H : Hp), xs[i]? = some x → ys[i]? = some y → Pv i H → H T = none → g (.ref T) (wipe σ vs) (upd H T (.tup [x, y])) fun σ2 H2 => wipe σ2 vs = wipe σ vs ∧ tt σ2 H2 fun b H3 =>
      if b = true then te σ2 H3 fun y H4 => ∃ acc, H4 D = some (.lst acc) ∧ acc.length < sizeLine ∧ Pv (i + 1) (upd H4 D (.lst (acc ++ [y]))) else Pv (i + 1) H3) (hd : ∀ H, Pv n H → Qd H) :
    ∃ W : Nat → Nat → Hp → Prop, (∃ m, W 0 m (upd H1 D (.lst []))) ∧ ∀ i m H, W i m H →
      ((RZ.ItzT K a b).stop i H ∧ Qd H) ∨ ((RZ.ItzT K a b).go i H ∧ ∃ Nx : Hp → Prop, (∀ H', Nx H' → ∃ m', m' < m ∧ W (i + 1) m' H') ∧ ∀ x H', (RZ.ItzT K a b).yld i H x H' → g x (wipe σ vs) H' fun σ2 H2 => wipe σ2 vs = wipe σ vs ∧ tt σ2 H2 fun b H3 =>
        if b = true then te σ2 H3 fun y H4 => ∃ acc, H4 D = some (.lst acc) ∧ acc.length < sizeLine ∧ Nx (upd H4 D (.lst (acc ++ [y]))) else Nx H3) := by
  refine ⟨fun i m H => m = n - i ∧ i ≤ n ∧ Pv i H, ⟨n, rfl, Nat.zero_le _, h0⟩, ?_⟩
  rintro i m H ⟨rfl, hi, p⟩
  obtain ⟨qx, qy⟩ := hq i H p
  by_cases hlt : i < n
  · have hlt1 : i < xs.length := by omega
    have hlt2 : i < ys.length := by omega
    have hx : xs[i]? = some xs[i] := List.getElem?_eq_getElem hlt1
    have hy : ys[i]? = some ys[i] := List.getElem?_eq_getElem hlt2
    refine .inr ⟨⟨xs, ys, _, _, qx, qy, hx, hy⟩, Pv (i + 1), fun H' p' => ⟨n - (i + 1), by omega, rfl, hlt, p'⟩, fun v H' y => ?_⟩
    obtain ⟨T, x', y', rfl, hT, rfl, f1, f2⟩ := y
    exact hs i x' y' T H (f1 xs qx) (f2 ys qy) p hT
  · have e : i = n := by omega
    subst e
    exact .inl ⟨⟨xs, ys, qx, qy, by omega⟩, hd H p⟩
section
variable {X : Cx}
/-- a statement that is never reached -/
theorem ps_dead {st : Stmt} : PS X st (fun _ _ _ => False) := ⟨fun _ _ _ _ _ _ h => h.elim⟩
theorem pe_dead {e : Expr} : PE X e (fun _ _ _ => False) := ⟨fun _ _ _ _ _ _ h => h.elim⟩
theorem pss_dead {b : List Stmt} : PSs X b (fun _ _ _ => False) := ⟨fun _ _ _ _ _ _ h => h.elim⟩
def rInDc : R2 := fun x y H Q => ∃ a o, y = .ref a ∧ DGet H a x o ∧ Q (.bl o.isSome) H
def rNotInDc : R2 := fun x y H Q => ∃ a o, y = .ref a ∧ DGet H a x o ∧ Q (.bl (!o.isSome)) H
theorem op_inDc (hu : X.A.units + 1 < cLine) : OpR X (compareOp .In) rInDc := by
  intro pins s σ H x y v u Q I rx ry h
  obtain ⟨a, o, rfl, g, q⟩ := h
  cases ry
  exact d_in hu I g rx fun s1 I1 => ⟨.bl _, H, I1, rfl, q⟩
theorem op_notInDc (hu : X.A.units + 1 < cLine) : OpR X (compareOp .NotIn) rNotInDc := by
  intro pins s σ H x y v u Q I rx ry h
  obtain ⟨a, o, rfl, g, q⟩ := h
  cases ry
  exact d_notIn hu I g rx fun s1 I1 => ⟨.bl _, H, I1, rfl, q⟩
end
theorem _root_.L2.Room.units1 {k : Nat} {A : Around} (hr : Room k A) : A.units + 1 < cLine := by have := hr.un; omega
end Gd
namespace Gd
open PySem PySem.Spec PyProof.Rows L2
/-- a walk over a tuple, whatever a turn does -/
theorem walk_tup {K : PySem.W.Frag} {a : Addr} {xs : List V} {B : V → Hp → (Hp → Prop) → Prop} {H0 : Hp} {Qd : Hp → Prop} (Pv : Nat → Hp → Prop) (h0 : Pv 0 H0) (hl : ∀ i H, i ≤ xs.length → Pv i H → SqT K H a xs)
    (hs : ∀ i x H, xs[i]? = some x → Pv i H → B x H (Pv (i + 1))) (hd : ∀ H, Pv xs.length H → Qd H) :
    ∃ W : Nat → Nat → Hp → Prop, (∃ m, W 0 m H0) ∧ ∀ i m H, W i m H →
      ((Itt K a).stop i H ∧ Qd H) ∨ ((Itt K a).go i H ∧ ∃ Nx : Hp → Prop, (∀ H', Nx H' → ∃ m', m' < m ∧ W (i + 1) m' H') ∧ ∀ x H', (Itt K a).yld i H x H' → B x H' Nx) := by
  refine ⟨fun i m H => m = xs.length - i ∧ i ≤ xs.length ∧ Pv i H, ⟨xs.length, by simp, Nat.zero_le _, h0⟩, ?_⟩
  rintro i m H ⟨rfl, hi, p⟩
  have q := hl i H hi p
  by_cases hlt : i < xs.length
  · refine .inr ⟨⟨xs, xs[i], q, by simp [hlt]⟩, Pv (i + 1), fun H' p' => ⟨xs.length - (i + 1), by omega, rfl, hlt, p'⟩, fun x H' y => ?_⟩
    obtain ⟨e, y⟩ := y
    subst e
    exact hs i x _ (y xs q) p
  · have e : i = xs.length := by omega
    subst e
    exact .inl ⟨⟨xs, q, Nat.le_refl _⟩, hd H p⟩
end Gd
namespace Gd
open PySem PySem.Spec PyProof.Rows L2
/-- a walk over a text's signs -/
theorem walk_str {x : Str} {B : V → Hp → (Hp → Prop) → Prop} {H0 : Hp} {Qd : Hp → Prop} (Pv : Nat → Hp → Prop) (h0 : Pv 0 H0)
    (hs : ∀ i c H, x.cps[i]? = some c → Pv i H → B (.str ⟨#[c]⟩) H (Pv (i + 1))) (hd : ∀ H, Pv x.cps.size H → Qd H) :
    ∃ W : Nat → Nat → Hp → Prop, (∃ m, W 0 m H0) ∧ ∀ i m H, W i m H →
      ((Its x).stop i H ∧ Qd H) ∨ ((Its x).go i H ∧ ∃ Nx : Hp → Prop, (∀ H', Nx H' → ∃ m', m' < m ∧ W (i + 1) m' H') ∧ ∀ v H', (Its x).yld i H v H' → B v H' Nx) := by
  refine ⟨fun i m H => m = x.cps.size - i ∧ i ≤ x.cps.size ∧ Pv i H, ⟨x.cps.size, by simp, Nat.zero_le _, h0⟩, ?_⟩
  rintro i m H ⟨rfl, hi, p⟩
  by_cases hlt : i < x.cps.size
  · refine .inr ⟨hlt, Pv (i + 1), fun H' p' => ⟨x.cps.size - (i + 1), by omega, rfl, hlt, p'⟩, fun v H' y => ?_⟩
    obtain ⟨rfl, c, hc, rfl⟩ := y
    exact hs i c _ hc p
  · have e : i = x.cps.size := by omega
    subst e
    exact .inl ⟨Nat.le_refl _, hd H p⟩
end Gd

namespace Own
open PySem PySem.Spec PyProof.Rows L2 SX
/-! ### the store of numbers that the draws eat -/
structure HpL (H : Hp) (h q : Addr) (cs : List Int) (st : Int) : Prop where
  ne : h ≠ q
  hh : H h = some (.lst [.ref q, .int st])
  hq : H q = some (.lst (cs.map V.int))
  nn : ∀ c ∈ cs, 0 ≤ c
  ln : cs.length ≤ 60
  s0 : 0 ≤ st
  s1 : st < 2147483647
def HpAt (H : Hp) (h q : Addr) : Prop := ∃ cs st, HpL H h q cs st
def Kpt (h q : Addr) (H H' : Hp) : Prop := ∀ b o, H b = some o → b ≠ h → b ≠ q → H' b = some o
theorem Kpt.refl (h q : Addr) (H : Hp) : Kpt h q H H := fun _ _ e _ _ => e
theorem Kpt.trans {h q : Addr} {H H1 H2 : Hp} (a : Kpt h q H H1) (b : Kpt h q H1 H2) : Kpt h q H H2 := fun c o e n1 n2 => b c o (a c o e n1 n2) n1 n2
theorem Kpt.of_same {h q : Addr} {H H' : Hp} (s : Same H H') : Kpt h q H H' := fun b o e _ _ => s b o e
theorem Kpt.at_q {h q : Addr} {H : Hp} {o : HO} : Kpt h q H (upd H q o) := fun b x e _ n => by rw [upd_ne n]; exact e
theorem Kpt.at_h {h q : Addr} {H : Hp} {o : HO} : Kpt h q H (upd H h o) := fun b x e n _ => by rw [upd_ne n]; exact e
theorem HpL.same {H H' : Hp} {h q : Addr} {cs : List Int} {st : Int} (a : HpL H h q cs st) (s : Same H H') : HpL H' h q cs st := ⟨a.ne, s _ _ a.hh, s _ _ a.hq, a.nn, a.ln, a.s0, a.s1⟩
theorem HpAt.same {H H' : Hp} {h q : Addr} (a : HpAt H h q) (s : Same H H') : HpAt H' h q := by
  obtain ⟨cs, st, a⟩ := a
  exact ⟨cs, st, a.same s⟩
theorem HpL.put {H : Hp} {h q : Addr} {cs : List Int} {st : Int} (a : HpL H h q cs st) (ds : List Int) (nn : ∀ c ∈ ds, 0 ≤ c) (ln : ds.length ≤ 60) : HpL (upd H q (.lst (ds.map V.int))) h q ds st :=
  ⟨a.ne, by rw [upd_ne a.ne]; exact a.hh, upd_same, nn, ln, a.s0, a.s1⟩
theorem HpAt.fresh {H : Hp} {h q p : Addr} (a : HpAt H h q) (np : H p = none) : p ≠ h ∧ p ≠ q := by
  obtain ⟨cs, st, a⟩ := a
  exact ⟨(ne_of_none a.hh np).symm, (ne_of_none a.hq np).symm⟩
theorem dp_ints {K : PySem.W.Frag} {H : Hp} : ∀ cs : List Int, DpAll K H (cs.map V.int) (cs.map PyData.int)
  | [] => .nil
  | c :: r => .cons (.int c) (dp_ints r)
theorem shp_ints (ns : List Int) : SeqAt.shaped (.list (ns.map PyData.int)) = true := PySem.W.ke_shaped_ints ns
theorem Kpt.free {h q D : Addr} {H H1 : Hp} (k : Kpt h q H H1) (n : H1 D = none) (n1 : D ≠ h) (n2 : D ≠ q) : H D = none := by
  cases e : H D with
  | none => rfl
  | some o => rw [k _ _ e n1 n2] at n; cases n
theorem Kpt.at_new {h q D : Addr} {H H1 : Hp} {o : HO} (k : Kpt h q H H1) (n : H D = none) : Kpt h q H (upd H1 D o) := fun b x e n1 n2 => by
  rw [upd_ne (ne_of_none e n)]; exact k _ _ e n1 n2
theorem HpAt.upd {H : Hp} {h q D : Addr} {o : HO} (a : HpAt H h q) (n1 : D ≠ h) (n2 : D ≠ q) : HpAt (upd H D o) h q := by
  obtain ⟨cs, st, a⟩ := a
  exact ⟨cs, st, a.ne, by rw [upd_ne n1.symm]; exact a.hh, by rw [upd_ne n2.symm]; exact a.hq, a.nn, a.ln, a.s0, a.s1⟩
theorem cut60 (ns : List Int) : cutV (ns.map V.int) none (some 60) = (ns.take 60).map V.int := by
  unfold cutV
  rw [HT.sIx_none, show HT.sIx (ns.map V.int).length (ns.map V.int).length (some 60) = min 60 (ns.map V.int).length from HT.sIx_nat _ _ 60, List.drop_zero, Nat.sub_zero, List.map_take]
  by_cases h : 60 ≤ (ns.map V.int).length
  · rw [Nat.min_eq_left h]
  · rw [Nat.min_eq_right (by omega), List.take_length, List.take_of_length_le (by omega)]
theorem get_int {ns : List Int} {i : Nat} {x : V} (h : (ns.map V.int)[i]? = some x) : ∃ z, ns[i]? = some z ∧ x = .int z := by
  rw [List.getElem?_map] at h
  cases e : ns[i]? with
  | none => rw [e] at h; cases h
  | some z => rw [e] at h; exact ⟨z, rfl, (Option.some.inj h).symm⟩
end Own

namespace M63
open PySem PySem.Spec PyProof.Rows L2 SX Own Gd
open C8 (Cal pe_c pe_gc pe_mk Mak pss_cut)
def topS (i : Nat) : Stmt := PySem.Challenge.pw_paperbest_k63_whole_least_ends_of_benche.main.body.getD i (.Pass ⟨0, 0, 0, 0⟩)
def inS (i j : Nat) : Stmt := match topS i with
  | .ClassDef _ _ _ b _ _ _ _ _ _ _ => b.getD j (.Pass ⟨0, 0, 0, 0⟩)
  | s => s
def wordsL : List Str := ["and", "bench", "if", "least", "or", "room", "round", "table", "then", "unlike"]
/-- what the text's top has: the tuple of words at aW, the dict of tests at aT -/
structure Txt (K : PySem.W.Frag) (mg : Str → Option Value) (w : World) (aW aT : Addr) (es : Array DictEntry) (n : Nat) : Prop where
  b_len : mg "len" = none
  b_range : mg "range" = none
  b_int : mg "int" = none
  b_abs : mg "abs" = none
  b_all : mg "all" = none
  b_sum : mg "sum" = none
  b_repr : mg "repr" = none
  b_tuple : mg "tuple" = none
  b_bool : mg "bool" = none
  b_str : mg "str" = none
  b_zip : mg "zip" = none
  b_min : mg "min" = none
  b_max : mg "max" = none
  b_reversed : mg "reversed" = none
  b_enumerate : mg "enumerate" = none
  b_isinstance : mg "isinstance" = none
  c_MOST_JOBS : ∃ u, mg "MOST_JOBS" = some u ∧ RelV (.int 10) u
  c_LONGEST_NAME : ∃ u, mg "LONGEST_NAME" = some u ∧ RelV (.int 6) u
  c_LETTERS : ∃ u, mg "LETTERS" = some u ∧ RelV (.str "abcdefghijklmnopqrstuvwxyz") u
  c_WORDS : ∃ u, mg "WORDS" = some u ∧ RelV (.ref aW) u
  c_WISH_TESTS : ∃ u, mg "WISH_TESTS" = some u ∧ RelV (.ref aT) u
  qW : ∀ H, SqT K H aW (wordsL.map V.str)
  kd : KDict K w aT es n
/-! ### integers in tuples -/
def tI (a : List Int) : HO := .tup (a.map V.int)
def LV (H : Hp) (v : V) (a : List Int) : Prop := ∃ q, v = .ref q ∧ H q = some (tI a)
theorem LV.same {H H' : Hp} {v : V} {a : List Int} (h : LV H v a) (s : Same H H') : LV H' v a := by
  obtain ⟨q, e, f⟩ := h
  exact ⟨q, e, s _ _ f⟩
theorem at_map {α : Type} {f : α → V} {a : List α} {i : Nat} {x : V} (h : (a.map f)[i]? = some x) : ∃ c, a[i]? = some c ∧ x = f c := by
  rw [List.getElem?_map] at h
  obtain ⟨c, hc, e⟩ := Option.map_eq_some_iff.mp h
  exact ⟨c, hc, e.symm⟩
theorem small1000 {n : Nat} (h : n < 1000) : n < sizeLine := by rw [sizeLine_eq]; omega
theorem small1001 {n : Nat} (h : n ≤ 1000) : n ≤ sizeLine := by rw [sizeLine_eq]; omega
theorem take_one {α : Type} {a : List α} {i : Nat} {c : α} (h : a[i]? = some c) : a.take (i + 1) = a.take i ++ [c] := by rw [List.take_add_one, h]; rfl
/-- each less than the next one -/
def Inc (a : List Int) : Prop := ∀ i x y, a[i]? = some x → a[i + 1]? = some y → x < y
def Within (n : Nat) (a : List Int) : Prop := ∀ c ∈ a, 0 ≤ c ∧ c < n
theorem reps {i : Nat} : (List.replicate i true).all id = true := by simp
theorem rep_app {i : Nat} : (List.replicate (i + 1) true).map V.bl = (List.replicate i true).map V.bl ++ [V.bl true] := by rw [List.replicate_succ', List.map_append]; rfl
theorem cut_tail {xs : List V} (h : 1 ≤ xs.length) : cutV xs (some 1) none = xs.drop 1 := by
  unfold cutV
  rw [show (some 1 : Option Int) = some ((1 : Nat) : Int) from rfl, HT.sIx_nat, HT.sIx_none, Nat.min_eq_left h, List.take_of_length_le (by rw [List.length_drop]; omega)]
section
variable {P : Program} {w : World} {K : PySem.W.Frag} {mg : Str → Option Value} {base : Heap} {aW aT : Addr} {es : Array DictEntry} {nn : Nat}
abbrev s_is_whole : Stmt := topS 14
abbrev n_is_whole : List Str := ["value"]
theorem sc_is_whole : FnScope n_is_whole ["value"] (defScope s_is_whole) := ⟨rfl, rfl, rfl, by decide +kernel, rfl, by decide +kernel, by decide +kernel⟩
def spWhole : Sp := fun vs H Q _ => ∃ i : Int, vs = [.int i] ∧ Q (.bl true) H
theorem ok_is_whole {f : Addr} {fd : FuncData} (F : Fun K "is_whole" "is_whole" s_is_whole f fd) (T : Txt K mg w aW aT es nn) : FnOk P w K mg base CX0 1 f fd ["value"] spWhole := by
  refine F.ok sc_is_whole (fun vs H Q E h => ?_) (fun cdv A outer s H vs Q E hr h => ?_)
  · obtain ⟨i, rfl, _⟩ := h
    rfl
  · obtain ⟨i, rfl, q⟩ := h
    refine ⟨_, (pss_one (ps_ret (pe_and (pe_callB call_isE (by rfl) T.b_isinstance (by decide +kernel) (pa_cons (pv 0) (pa_cons (pe_bltn (v := .ty "int") (by rfl) T.b_int boot_int rfl) pa_nil))) (pe_one (pe_not (pe_callB call_isE (by rfl) T.b_isinstance (by decide +kernel) (pa_cons (pv 0) (pa_cons (pe_bltn (v := .ty "bool") (by rfl) T.b_bool boot_bool rfl) pa_nil)))))))), ?_⟩
    exact ⟨_, rfl, .int i, .type "int", "int", true, rfl, .base (.base (.int i)), by rfl, true, rfl, iteT ⟨_, rfl, .int i, .type "int", "bool", false, rfl, .base (.base (.int i)), by rfl, false, rfl, q⟩⟩
abbrev s_is_places : Stmt := topS 19
abbrev n_is_places : List Str := ["value", "size", "item"]
theorem sc_is_places : FnScope n_is_places ["value", "size"] (defScope s_is_places) := ⟨rfl, rfl, rfl, by decide +kernel, rfl, by decide +kernel, by decide +kernel⟩
def spPlaces : Sp := fun vs H Q _ => ∃ (v : V) (n : Nat) (a : List Int), vs = [v, .int n] ∧ LV H v a ∧ Within n a ∧ a.length ≤ 1000 ∧ ∀ H', Same H H' → Q (.bl true) H'
theorem ok_is_places {f : Addr} {fd : FuncData} (F : Fun K "is_places" "is_places" s_is_places f fd) (T : Txt K mg w aW aT es nn) (c_is_whole : Cal P w K mg base 1 "is_whole" spWhole []) : FnOk P w K mg base CX0 2 f fd ["value", "size"] spPlaces := by
  refine F.ok sc_is_places (fun vs H Q E h => ?_) (fun cdv A outer s H vs Q E hr h => ?_)
  · obtain ⟨v, n, a, rfl, _⟩ := h
    rfl
  · obtain ⟨v, n, a, rfl, ⟨p, rfl, hp⟩, wi, la, q⟩ := h
    refine ⟨_, (pss_cons (ps_if (pt_not (pt_val (pe_callB call_isE (by rfl) T.b_isinstance (by decide +kernel) (pa_cons (pv 0) (pa_cons (pe_bltn (v := .ty "tuple") (by rfl) T.b_tuple boot_tuple rfl) pa_nil))))) (pss_one (ps_ret pe_bl)) pss_nil)
      (pss_one (ps_ret (pe_callB (cr_all rfl) (by rfl) T.b_all (by decide +kernel) (pa_cons (pe_lc (own := [("item", 2)]) rfl sc_is_places.nd (pi_tup (pv 0)) (blkOk_by (N := n_is_places) (sc := defScope s_is_places) (by decide +kernel)) (fun _ _ _ _ _ => (pg_name (i := 2) sc_is_places.nd rfl (.inl rfl))) (fun _ _ _ _ _ => pts_nil) (fun _ _ _ _ _ => (pe_and (pe_c c_is_whole hr (by decide) (by rfl) (pa_cons (pv 2) pa_nil)) (pe_one (pe_chain op_le op_lt pe_int (pv 2) (pv 1)))))) pa_nil))))), ?_⟩
    refine ⟨_, rfl, .ref p, .type "tuple", "tuple", true, rfl, .base (.base (.tup hp)), by rfl, true, rfl, iteF ?_⟩
    refine ⟨_, rfl, p, rfl, ⟨_, sq_tup hp⟩, fun D nD => ?_⟩
    refine lc_tup (K := K) (a := p) (xs := a.map V.int) (fun i H' => H' D = some (.lst ((List.replicate i true).map V.bl)) ∧ Same H H') ⟨upd_same, same_upd nD⟩ (fun i H' _ h => sq_tup (h.2 _ _ hp)) ?_ ?_
    · rintro i x H2 hx ⟨hD, sm⟩
      obtain ⟨c, hc, rfl⟩ := at_map hx
      have li : i < a.length := (List.getElem?_eq_some_iff.mp hc).1
      obtain ⟨c0, c1⟩ := wi c (List.mem_of_getElem? hc)
      refine ⟨rfl, _, rfl, c, rfl, true, rfl, iteT ⟨_, rfl, _, _, rfl, rfl, _, rfl, ite2 (fun _ => ?_) (fun h => absurd (decide_eq_true c0) h)⟩⟩
      refine ⟨_, rfl, _, _, rfl, rfl, _, hD, (by rw [List.length_map, List.length_replicate]; exact small1000 (by omega)), ?_, same_at sm nD⟩
      rw [upd_same, rep_app, show (fun i j : Int => V.bl (decide (i < j))) c n = V.bl true from congrArg V.bl (decide_eq_true c1)]
    · rintro H2 ⟨hD, sm⟩
      refine ⟨D, _, rfl, sq_lst hD, ?_⟩
      rw [reps]
      exact q _ sm
abbrev s_is_integers : Stmt := topS 20
abbrev n_is_integers : List Str := ["value", "many", "item"]
theorem sc_is_integers : FnScope n_is_integers ["value", "many"] (defScope s_is_integers) := ⟨rfl, rfl, rfl, by decide +kernel, rfl, by decide +kernel, by decide +kernel⟩
def spInts : Sp := fun vs H Q _ => ∃ (v : V) (a : List Int), vs = [v, .int (a.length : Nat)] ∧ LV H v a ∧ a.length ≤ 1000 ∧ ∀ H', Same H H' → Q (.bl true) H'
theorem ok_is_integers {f : Addr} {fd : FuncData} (F : Fun K "is_integers" "is_integers" s_is_integers f fd) (T : Txt K mg w aW aT es nn) (c_is_whole : Cal P w K mg base 1 "is_whole" spWhole []) : FnOk P w K mg base CX0 2 f fd ["value", "many"] spInts := by
  refine F.ok sc_is_integers (fun vs H Q E h => ?_) (fun cdv A outer s H vs Q E hr h => ?_)
  · obtain ⟨v, a, rfl, _⟩ := h
    rfl
  · obtain ⟨v, a, rfl, ⟨p, rfl, hp⟩, la, q⟩ := h
    refine ⟨_, (pss_cons (ps_if (PW.pt (pw_or (pt_not (pt_val (pe_callB call_isE (by rfl) T.b_isinstance (by decide +kernel) (pa_cons (pv 0) (pa_cons (pe_bltn (v := .ty "tuple") (by rfl) T.b_tuple boot_tuple rfl) pa_nil))))) (pw_or1 (pt_cmpR op_ne (pe_callB call_len_seq (by rfl) T.b_len (by decide +kernel) (pa_cons (pv 0) pa_nil)) (pv 1) (nomark _))))) (pss_one (ps_ret pe_bl)) pss_nil)
      (pss_one (ps_ret (pe_callB (cr_all rfl) (by rfl) T.b_all (by decide +kernel) (pa_cons (pe_lc (own := [("item", 2)]) rfl sc_is_integers.nd (pi_tup (pv 0)) (blkOk_by (N := n_is_integers) (sc := defScope s_is_integers) (by decide +kernel)) (fun _ _ _ _ _ => (pg_name (i := 2) sc_is_integers.nd rfl (.inl rfl))) (fun _ _ _ _ _ => pts_nil) (fun _ _ _ _ _ => (pe_c c_is_whole hr (by decide) (by rfl) (pa_cons (pv 2) pa_nil)))) pa_nil))))), ?_⟩
    refine ⟨_, rfl, .ref p, .type "tuple", "tuple", true, rfl, .base (.base (.tup hp)), by rfl, true, rfl, iteF ?_⟩
    refine ⟨_, rfl, p, _, rfl, .inr (sq_tup hp), _, rfl, rfl, _, rfl, ite2 (fun h => absurd h (by simp)) (fun _ => ?_)⟩
    refine ⟨_, rfl, p, rfl, ⟨_, sq_tup hp⟩, fun D nD => ?_⟩
    refine lc_tup (K := K) (a := p) (xs := a.map V.int) (fun i H' => H' D = some (.lst ((List.replicate i true).map V.bl)) ∧ Same H H') ⟨upd_same, same_upd nD⟩ (fun i H' _ h => sq_tup (h.2 _ _ hp)) ?_ ?_
    · rintro i x H2 hx ⟨hD, sm⟩
      obtain ⟨c, hc, rfl⟩ := at_map hx
      have li : i < a.length := (List.getElem?_eq_some_iff.mp hc).1
      refine ⟨rfl, _, rfl, c, rfl, _, hD, (by rw [List.length_map, List.length_replicate]; exact small1000 (by omega)), ?_, same_at sm nD⟩
      rw [upd_same, rep_app]
    · rintro H2 ⟨hD, sm⟩
      refine ⟨D, _, rfl, sq_lst hD, ?_⟩
      rw [reps]
      exact q _ sm
abbrev s_is_lot_of_places : Stmt := topS 18
abbrev n_is_lot_of_places : List Str := ["value", "size", "one", "other"]
theorem sc_is_lot_of_places : FnScope n_is_lot_of_places ["value", "size"] (defScope s_is_lot_of_places) := ⟨rfl, rfl, rfl, by decide +kernel, rfl, by decide +kernel, by decide +kernel⟩
def spLot : Sp := fun vs H Q _ => ∃ (v : V) (n : Nat) (a : List Int), vs = [v, .int n] ∧ LV H v a ∧ Within n a ∧ Inc a ∧ 2 ≤ a.length ∧ a.length ≤ 1000 ∧ ∀ H', Same H H' → Q (.bl true) H'
theorem ok_is_lot_of_places {f : Addr} {fd : FuncData} (F : Fun K "is_lot_of_places" "is_lot_of_places" s_is_lot_of_places f fd) (T : Txt K mg w aW aT es nn) (c_is_places : Cal P w K mg base 2 "is_places" spPlaces []) : FnOk P w K mg base CX0 3 f fd ["value", "size"] spLot := by
  refine F.ok sc_is_lot_of_places (fun vs H Q E h => ?_) (fun cdv A outer s H vs Q E hr h => ?_)
  · obtain ⟨v, n, a, rfl, _⟩ := h
    rfl
  · obtain ⟨v, n, a, rfl, ⟨p, rfl, hp⟩, wi, inc, l2, la, q⟩ := h
    refine ⟨_, (pss_cons (ps_if (pt_not (pt_val (pe_c c_is_places hr (by decide) (by rfl) (pa_cons (pv 0) (pa_cons (pv 1) pa_nil))))) (pss_one (ps_ret pe_bl)) pss_nil)
      (pss_one (ps_ret (pe_callB (cr_all rfl) (by rfl) T.b_all (by decide +kernel) (pa_cons (pe_lc (own := [("one", 2), ("other", 3)]) (g := gTup K 2 (gCons (gName 2) (gCons (gName 3) gNil))) rfl sc_is_lot_of_places.nd (RZ.pi_zipA (by rfl) T.b_zip (pa_cons (pv 0) (pa_cons (pe_slice sl_tupA (pv 0) (po_some pe_int) po_none) pa_nil))) (blkOk_by (N := n_is_lot_of_places) (sc := defScope s_is_lot_of_places) (by decide +kernel)) (fun _ _ _ _ _ => (pg_tup rfl (pgs_cons (pg_name (i := 2) sc_is_lot_of_places.nd rfl (.inl rfl)) (pgs_cons (pg_name (i := 3) sc_is_lot_of_places.nd rfl (.inl rfl)) pgs_nil)))) (fun _ _ _ _ _ => pts_nil) (fun _ _ _ _ _ => (pe_cmpR op_lt (pv 2) (pv 3) (nomark _)))) pa_nil))))), ?_⟩
    refine ⟨_, rfl, _, rfl, .ref p, n, a, rfl, ⟨p, rfl, hp⟩, wi, la, fun H1 s1 => ⟨true, rfl, iteF ?_⟩⟩
    have hp1 := s1 _ _ hp
    have lm : (a.map V.int).length = a.length := List.length_map ..
    refine ⟨_, rfl, _, rfl, _, rfl, p, _, rfl, sq_tup hp1, fun z => ?_, fun _ y ny => ?_⟩
    · exfalso
      have z := z.1
      rw [show (some 1 : Option Int) = some ((1 : Nat) : Int) from rfl, HT.sIx_nat, lm] at z
      omega
    rw [cut_tail (by omega)]
    have k2 := same_upd (o := .tup ((a.map V.int).drop 1)) ny
    have e2 : upd H1 y (.tup ((a.map V.int).drop 1)) y = some (.tup ((a.map V.int).drop 1)) := upd_same
    generalize upd H1 y (.tup ((a.map V.int).drop 1)) = H2 at *
    have hp2 := k2 _ _ hp1
    refine ⟨p, y, _, _, rfl, .inr ⟨sq_tup hp2, sq_tup e2, fun D nD => ?_⟩⟩
    refine lc_zipM (K := K) (a := p) (b := y) (xs := a.map V.int) (ys := (a.map V.int).drop 1) (a.length - 1) (by rw [List.length_drop, lm]; omega)
      (fun i H' => H' D = some (.lst ((List.replicate i true).map V.bl)) ∧ Same H2 H') ⟨upd_same, same_upd nD⟩ (fun i H' h => ⟨sq_tup (h.2 _ _ hp2), sq_tup (h.2 _ _ e2)⟩) ?_ ?_
    · rintro i c d T' H3 hc hd ⟨hD, sm⟩ nT
      obtain ⟨c, hc', rfl⟩ := at_map hc
      rw [List.getElem?_drop, Nat.add_comm] at hd
      obtain ⟨d, hd', rfl⟩ := at_map hd
      have li : i < a.length := (List.getElem?_eq_some_iff.mp hc').1
      have DT : D ≠ T' := ne_of_none hD nT
      have lt := inc i c d hc' hd'
      refine ⟨T', _, rfl, sq_tup upd_same, rfl, _, _, rfl, _, _, rfl, rfl, rfl, ?_⟩
      refine ⟨_, rfl, _, rfl, _, _, rfl, rfl, _, (by rw [upd_ne DT]; exact hD), (by rw [List.length_map, List.length_replicate]; exact small1000 (by omega)), ?_, same_at (same_at sm (sm.free nT)) nD⟩
      rw [upd_same, rep_app, show (fun i j : Int => V.bl (decide (i < j))) c d = V.bl true from congrArg V.bl (decide_eq_true lt)]
    · rintro H3 ⟨hD, sm⟩
      refine ⟨D, _, rfl, sq_lst hD, ?_⟩
      rw [reps]
      exact q _ ((s1.trans k2).trans sm)
end
end M63

namespace M63
open PySem PySem.Spec PyProof.Rows L2 SX Own Gd
open C8 (Cal pe_c pe_gc pe_mk Mak pss_cut)
/-! ### wishes -/
inductive LVs (H : Hp) : List V → List (List Int) → Prop
  | nil : LVs H [] []
  | cons {v : V} {vs : List V} {a : List Int} {as : List (List Int)} : LV H v a → LVs H vs as → LVs H (v :: vs) (a :: as)
theorem LVs.same {H H' : Hp} (s : Same H H') : ∀ {vs : List V} {as : List (List Int)}, LVs H vs as → LVs H' vs as
  | _, _, .nil => .nil
  | _, _, .cons h t => .cons (h.same s) (t.same s)
theorem LVs.len {H : Hp} : ∀ {vs : List V} {as : List (List Int)}, LVs H vs as → vs.length = as.length
  | _, _, .nil => rfl
  | _, _, .cons _ t => congrArg (· + 1) t.len
theorem LVs.at_ {H : Hp} : ∀ {vs : List V} {as : List (List Int)} {i : Nat} {v : V}, LVs H vs as → vs[i]? = some v → ∃ a, as[i]? = some a ∧ LV H v a
  | _, _, 0, _, .cons h t, e => by
    cases e
    exact ⟨_, rfl, h⟩
  | _, _, i + 1, _, .cons h t, e => by
    obtain ⟨r, e1, e2⟩ := t.at_ (i := i) (by simpa using e)
    exact ⟨r, by simpa using e1, e2⟩
/-- jobs of integers -/
def JV (H : Hp) (v : V) (js : List (List Int)) : Prop := ∃ p us, v = .ref p ∧ H p = some (.tup us) ∧ LVs H us js
theorem JV.same {H H' : Hp} {v : V} {js : List (List Int)} (h : JV H v js) (s : Same H H') : JV H' v js := by
  obtain ⟨p, us, e, f, g⟩ := h
  exact ⟨p, us, e, s _ _ f, g.same s⟩
def placeOf (j : List Int) : Int := j.getD 0 0
structure JobsOk (size many : Nat) (js : List (List Int)) : Prop where
  two : 2 ≤ js.length
  few : js.length ≤ 100
  len : ∀ j ∈ js, j.length = many
  one : ∀ j ∈ js, ∀ c ∈ j.drop 1, 1 ≤ c
  inc : Inc (js.map placeOf)
  wi : Within size (js.map placeOf)
inductive Wish
  | unlike (a : List Int)
  | bench (js : List (List Int))
def Wish.word : Wish → Str
  | .unlike _ => "unlike"
  | .bench _ => "bench"
def WV (H : Hp) (v : V) : Wish → Prop
  | .unlike a => ∃ p u, v = .ref p ∧ H p = some (.tup [.str "unlike", u]) ∧ LV H u a
  | .bench js => ∃ p u, v = .ref p ∧ H p = some (.tup [.str "bench", u]) ∧ JV H u js
theorem WV.same {H H' : Hp} {v : V} {x : Wish} (h : WV H v x) (s : Same H H') : WV H' v x := by
  cases x with
  | unlike a =>
    obtain ⟨p, u, e, f, g⟩ := h
    exact ⟨p, u, e, s _ _ f, g.same s⟩
  | bench js =>
    obtain ⟨p, u, e, f, g⟩ := h
    exact ⟨p, u, e, s _ _ f, g.same s⟩
def WishOk (size : Nat) : Wish → Prop
  | .unlike a => Within size a ∧ Inc a ∧ 2 ≤ a.length ∧ a.length ≤ 1000
  | .bench js => JobsOk size 2 js
section
variable {P : Program} {w : World} {K : PySem.W.Frag} {mg : Str → Option Value} {base : Heap} {aW aT : Addr} {es : Array DictEntry} {nn : Nat}
abbrev s_is_unlike : Stmt := topS 22
abbrev n_is_unlike : List Str := ["value", "size"]
theorem sc_is_unlike : FnScope n_is_unlike ["value", "size"] (defScope s_is_unlike) := ⟨rfl, rfl, rfl, by decide +kernel, rfl, by decide +kernel, by decide +kernel⟩
def spUnlike : Sp := fun vs H Q _ => ∃ (p : Addr) (k : V) (v : V) (n : Nat) (a : List Int), vs = [.ref p, .int n] ∧ H p = some (.tup [k, v]) ∧ LV H v a ∧ Within n a ∧ Inc a ∧ 2 ≤ a.length ∧ a.length ≤ 1000 ∧ ∀ H', Same H H' → Q (.bl true) H'
theorem ok_is_unlike {f : Addr} {fd : FuncData} (F : Fun K "_is_unlike" "_is_unlike" s_is_unlike f fd) (T : Txt K mg w aW aT es nn) (c_is_lot_of_places : Cal P w K mg base 3 "is_lot_of_places" spLot []) : FnOk P w K mg base CX0 4 f fd ["value", "size"] spUnlike := by
  refine F.ok sc_is_unlike (fun vs H Q E h => ?_) (fun cdv A outer s H vs Q E hr h => ?_)
  · obtain ⟨p, k, v, n, a, rfl, _⟩ := h
    rfl
  · obtain ⟨p, k, v, n, a, rfl, hp, ⟨qa, rfl, hq⟩, wi, inc, l2, la, q⟩ := h
    refine ⟨_, (pss_one (ps_ret (pe_and (pe_cmpR op_eq (pe_callB call_len_seq (by rfl) T.b_len (by decide +kernel) (pa_cons (pv 0) pa_nil)) pe_int (nomark _)) (pe_and (pe_c c_is_lot_of_places hr (by decide) (by rfl) (pa_cons (pe_ix ix_tup (pv 0) pe_int (fun _ _ => rfl)) (pa_cons (pv 1) pa_nil))) (pe_one (pe_cmpR op_ge (pe_callB call_len_seq (by rfl) T.b_len (by decide +kernel) (pa_cons (pe_ix ix_tup (pv 0) pe_int (fun _ _ => rfl)) pa_nil)) pe_int (nomark _))))))), ?_⟩
    refine ⟨_, rfl, p, _, rfl, .inr (sq_tup hp), rfl, true, rfl, iteT ?_⟩
    refine ⟨_, rfl, p, _, 1, _, rfl, rfl, sq_tup hp, rfl, _, rfl, .ref qa, n, a, rfl, ⟨qa, rfl, hq⟩, wi, inc, l2, la, fun H1 s1 => ⟨true, rfl, iteT ?_⟩⟩
    refine ⟨_, rfl, p, _, 1, _, rfl, rfl, sq_tup (s1 _ _ hp), rfl, qa, _, rfl, .inr (sq_tup (s1 _ _ hq)), _, _, rfl, rfl, ?_⟩
    rw [show (fun i j : Int => V.bl (decide (j ≤ i))) ((a.map V.int).length : Nat) 2 = V.bl true from congrArg V.bl (decide_eq_true (by rw [List.length_map]; omega))]
    exact q _ s1
abbrev s_is_jobs : Stmt := topS 27
abbrev n_is_jobs : List Str := ["value", "size", "many", "job", "item"]
theorem sc_is_jobs : FnScope n_is_jobs ["value", "size", "many"] (defScope s_is_jobs) := ⟨rfl, rfl, rfl, by decide +kernel, rfl, by decide +kernel, by decide +kernel⟩
def spJobs : Sp := fun vs H Q _ => ∃ (v : V) (n many : Nat) (js : List (List Int)), vs = [v, .int n, .int many] ∧ JV H v js ∧ JobsOk n many js ∧ 1 ≤ many ∧ many ≤ 5 ∧ ∀ H', Same H H' → Q (.bl true) H'
theorem ok_is_jobs {f : Addr} {fd : FuncData} (F : Fun K "_is_jobs" "_is_jobs" s_is_jobs f fd) (T : Txt K mg w aW aT es nn) (c_is_integers : Cal P w K mg base 2 "is_integers" spInts []) (c_is_lot_of_places : Cal P w K mg base 3 "is_lot_of_places" spLot []) : FnOk P w K mg base CX0 4 f fd ["value", "size", "many"] spJobs := by
  refine F.ok sc_is_jobs (fun vs H Q E h => ?_) (fun cdv A outer s H vs Q E hr h => ?_)
  · obtain ⟨v, n, many, js, rfl, _⟩ := h
    rfl
  · obtain ⟨v, n, many, js, rfl, ⟨p, us, rfl, hp, lv⟩, ok, m1, m5, q⟩ := h
    have ul := lv.len
    have two := ok.two
    have few := ok.few
    refine ⟨_, (pss_cons (ps_if (PW.pt (pw_or (pt_not (pt_val (pe_callB call_isE (by rfl) T.b_isinstance (by decide +kernel) (pa_cons (pv 0) (pa_cons (pe_bltn (v := .ty "tuple") (by rfl) T.b_tuple boot_tuple rfl) pa_nil))))) (pw_or1 (pt_cmpR op_lt (pe_callB call_len_seq (by rfl) T.b_len (by decide +kernel) (pa_cons (pv 0) pa_nil)) pe_int (nomark _))))) (pss_one (ps_ret pe_bl)) pss_nil)
      (pss_cons (ps_if (pt_not (pt_val (pe_callB (cr_all rfl) (by rfl) T.b_all (by decide +kernel) (pa_cons (pe_lc (own := [("job", 3)]) rfl sc_is_jobs.nd (pi_tup (pv 0)) (blkOk_by (N := n_is_jobs) (sc := defScope s_is_jobs) (by decide +kernel)) (fun _ _ _ _ _ => (pg_name (i := 3) sc_is_jobs.nd rfl (.inl rfl))) (fun _ _ _ _ _ => pts_nil) (fun _ _ _ _ _ => (pe_c c_is_integers hr (by decide) (by rfl) (pa_cons (pv 3) (pa_cons (pv 2) pa_nil))))) pa_nil)))) (pss_one (ps_ret pe_bl)) pss_nil)
      (pss_cons (ps_if (pt_not (pt_val (pe_c c_is_lot_of_places hr (by decide) (by rfl) (pa_cons (pe_callTy call_tuple_of (by rfl) T.b_tuple (by decide +kernel) (pa_cons (pe_lc (own := [("job", 3)]) rfl sc_is_jobs.nd (pi_tup (pv 0)) (blkOk_by (N := n_is_jobs) (sc := defScope s_is_jobs) (by decide +kernel)) (fun _ _ _ _ _ => (pg_name (i := 3) sc_is_jobs.nd rfl (.inl rfl))) (fun _ _ _ _ _ => pts_nil) (fun _ _ _ _ _ => (pe_ix (r := rIxT K) ix_tup (pv 3) pe_int (fun _ _ => rfl)))) pa_nil)) (pa_cons (pv 1) pa_nil))))) (pss_one (ps_ret pe_bl)) pss_nil)
      (pss_one (ps_ret (pe_callB (cr_all rfl) (by rfl) T.b_all (by decide +kernel) (pa_cons (pe_lc2 (wi1 := iTup K (tSl (rSlA K) (tVar 3) (tPart (tC (V.int 1))) tNoPart)) (own := [("job", 3), ("item", 4)]) (vs1 := [4]) rfl sc_is_jobs.nd (pi_tup (pv 0)) (blkOk_by (N := n_is_jobs) (sc := defScope s_is_jobs) (by decide +kernel)) (by decide) (fun _ _ _ _ _ => (pg_name (i := 3) sc_is_jobs.nd rfl (.inl rfl))) (fun _ _ _ _ _ => pts_nil) (fun _ _ _ _ _ => (pi_tup (pe_slice (r := rSlA K) sl_tupA (pv 3) (po_some pe_int) po_none))) (fun _ _ _ _ _ => (pg_name (i := 4) sc_is_jobs.nd rfl (.inl rfl))) (fun _ _ _ _ _ => pts_nil) (fun _ _ _ _ _ => (pe_cmpR op_ge (pv 4) pe_int (nomark _)))) pa_nil))))))), ?_⟩
    refine ⟨_, rfl, .ref p, .type "tuple", "tuple", true, rfl, .base (.base (.tup hp)), by rfl, true, rfl, iteF ?_⟩
    refine ⟨_, rfl, p, _, rfl, .inr (sq_tup hp), _, _, rfl, rfl, _, rfl, ite2 (fun h => ?_) (fun _ => ?_)⟩
    · exfalso
      have h := of_decide_eq_true h
      omega
    refine ⟨_, rfl, p, rfl, ⟨_, sq_tup hp⟩, fun D nD => ?_⟩
    refine lc_tup (K := K) (a := p) (xs := us) (fun i H' => H' D = some (.lst ((List.replicate i true).map V.bl)) ∧ Same H H') ⟨upd_same, same_upd nD⟩ (fun i H' _ h => sq_tup (h.2 _ _ hp)) ?_ ?_
    · rintro i x H2 hx ⟨hD, sm⟩
      obtain ⟨j, hj, jv⟩ := lv.at_ hx
      have li : i < js.length := (List.getElem?_eq_some_iff.mp hj).1
      have lj := ok.len j (List.mem_of_getElem? hj)
      refine ⟨rfl, _, rfl, _, rfl, x, j, by rw [lj]; rfl, jv.same sm, by omega, fun H3 s3 => ⟨_, s3 _ _ hD, (by rw [List.length_map, List.length_replicate]; exact small1000 (by omega)), ?_, same_at (sm.trans s3) nD⟩⟩
      rw [upd_same, rep_app]
    rintro H2 ⟨hD, sm⟩
    refine ⟨D, _, rfl, sq_lst hD, ?_⟩
    rw [reps]
    refine ⟨true, rfl, iteF ?_⟩
    have hp2 := sm _ _ hp
    refine ⟨_, rfl, p, rfl, ⟨_, sq_tup hp2⟩, fun D2 nD2 => ?_⟩
    refine lc_tup (K := K) (a := p) (xs := us) (fun i H' => H' D2 = some (.lst (((js.take i).map placeOf).map V.int)) ∧ Same H2 H') ⟨upd_same, same_upd nD2⟩ (fun i H' _ h => sq_tup (h.2 _ _ hp2)) ?_ ?_
    · rintro i x H3 hx ⟨hD, s3⟩
      obtain ⟨j, hj, pj, rfl, hpj⟩ := lv.at_ hx
      have li : i < js.length := (List.getElem?_eq_some_iff.mp hj).1
      have lj := ok.len j (List.mem_of_getElem? hj)
      have hpj3 := s3 _ _ (sm _ _ hpj)
      obtain ⟨c, j', rfl⟩ : ∃ c j', j = c :: j' := by
        cases j with
        | nil => simp at lj; omega
        | cons c j' => exact ⟨c, j', rfl⟩
      refine ⟨rfl, _, rfl, pj, _, 0, .int c, rfl, rfl, sq_tup hpj3, atI_nat (j := 0) rfl, _, hD, (by rw [List.length_map, List.length_map, List.length_take]; exact small1000 (by omega)), ?_, same_at s3 nD2⟩
      rw [upd_same, take_one hj, List.map_append, List.map_append]; rfl
    rintro H3 ⟨hD3, s3⟩
    rw [ul, List.take_length] at hD3
    refine ⟨D2, _, rfl, .inl ⟨sq_lst hD3, fun t nt => ?_⟩⟩
    have k4 := same_upd (o := tI (js.map placeOf)) nt
    refine ⟨_, rfl, .ref t, n, js.map placeOf, rfl, ⟨t, rfl, upd_same⟩, ok.wi, ok.inc, by rw [List.length_map]; omega, by rw [List.length_map]; omega, fun H5 s5 => ⟨true, rfl, iteF ?_⟩⟩
    have s05 := ((sm.trans s3).trans k4).trans s5
    have hp5 := s05 _ _ hp
    refine ⟨_, rfl, p, rfl, ⟨_, sq_tup hp5⟩, fun D6 nD6 => ?_⟩
    refine walk_tup (K := K) (a := p) (xs := us) (fun i H' => ∃ m, H' D6 = some (.lst ((List.replicate m true).map V.bl)) ∧ m ≤ i * 5 ∧ Same H5 H') ⟨0, upd_same, Nat.zero_le _, same_upd nD6⟩ (fun i H' _ h => by obtain ⟨m, _, _, sm⟩ := h; exact sq_tup (sm _ _ hp5)) ?_ ?_
    · rintro i x H6 hx ⟨m, hD6, mi, s6⟩
      obtain ⟨j, hj, pj, rfl, hpj⟩ := lv.at_ hx
      have li : i < js.length := (List.getElem?_eq_some_iff.mp hj).1
      have lj := ok.len j (List.mem_of_getElem? hj)
      have hpj6 := s6 _ _ (s05 _ _ hpj)
      have lm : (j.map V.int).length = many := by rw [List.length_map, lj]
      refine ⟨rfl, _, rfl, _, rfl, pj, _, rfl, sq_tup hpj6, fun z => ?_, fun _ y ny => ?_⟩
      · exfalso
        have z := z.1
        rw [show (some 1 : Option Int) = some ((1 : Nat) : Int) from rfl, HT.sIx_nat, lm] at z
        omega
      rw [cut_tail (by omega)]
      have Dy : D6 ≠ y := ne_of_none hD6 ny
      have k7 := same_upd (o := .tup ((j.map V.int).drop 1)) ny
      have ey : upd H6 y (.tup ((j.map V.int).drop 1)) y = some (.tup ((j.map V.int).drop 1)) := upd_same
      have hD7 := k7 _ _ hD6
      have s7 := s6.trans k7
      generalize upd H6 y (.tup ((j.map V.int).drop 1)) = H7 at *
      refine ⟨y, rfl, ⟨_, sq_tup ey⟩, ?_⟩
      refine walk_tup (K := K) (a := y) (xs := (j.map V.int).drop 1) (fun k H' => ∃ m', H' D6 = some (.lst ((List.replicate m' true).map V.bl)) ∧ m' ≤ i * 5 + k ∧ Same H5 H' ∧ H' y = some (.tup ((j.map V.int).drop 1))) ⟨m, hD7, by omega, s7, ey⟩ (fun k H' _ h => by obtain ⟨_, _, _, _, e⟩ := h; exact sq_tup e) ?_ ?_
      · rintro k x H8 hx8 ⟨m', hD8, mk, s8, ey8⟩
        rw [← List.map_drop] at hx8
        obtain ⟨c, hc, rfl⟩ := at_map hx8
        have c1 := ok.one j (List.mem_of_getElem? hj) c (List.mem_of_getElem? hc)
        have lk : k < (j.drop 1).length := (List.getElem?_eq_some_iff.mp hc).1
        rw [List.length_drop] at lk
        refine ⟨rfl, _, rfl, _, _, rfl, rfl, _, hD8, (by rw [List.length_map, List.length_replicate]; exact small1000 (by omega)), m' + 1, ?_, by omega, same_at s8 nD6, by rw [upd_ne Dy.symm]; exact ey8⟩
        rw [upd_same, rep_app, show (fun i j : Int => V.bl (decide (j ≤ i))) c 1 = V.bl true from congrArg V.bl (decide_eq_true c1)]
      · rintro H8 ⟨m', hD8, mk, s8, _⟩
        rw [List.length_drop, lm] at mk
        exact ⟨m', hD8, by omega, s8⟩
    · rintro H6 ⟨m, hD6, _, s6⟩
      refine ⟨D6, _, rfl, sq_lst hD6, ?_⟩
      rw [reps]
      exact q _ (s05.trans s6)
abbrev s_is_bench : Stmt := topS 25
abbrev n_is_bench : List Str := ["value", "size"]
theorem sc_is_bench : FnScope n_is_bench ["value", "size"] (defScope s_is_bench) := ⟨rfl, rfl, rfl, by decide +kernel, rfl, by decide +kernel, by decide +kernel⟩
def spBench : Sp := fun vs H Q _ => ∃ (p : Addr) (k v : V) (n : Nat) (js : List (List Int)), vs = [.ref p, .int n] ∧ H p = some (.tup [k, v]) ∧ JV H v js ∧ JobsOk n 2 js ∧ ∀ H', Same H H' → Q (.bl true) H'
theorem ok_is_bench {f : Addr} {fd : FuncData} (F : Fun K "_is_bench" "_is_bench" s_is_bench f fd) (T : Txt K mg w aW aT es nn) (c_is_jobs : Cal P w K mg base 4 "_is_jobs" spJobs []) : FnOk P w K mg base CX0 5 f fd ["value", "size"] spBench := by
  refine F.ok sc_is_bench (fun vs H Q E h => ?_) (fun cdv A outer s H vs Q E hr h => ?_)
  · obtain ⟨p, k, v, n, js, rfl, _⟩ := h
    rfl
  · obtain ⟨p, k, v, n, js, rfl, hp, jv, ok, q⟩ := h
    refine ⟨_, (pss_one (ps_ret (pe_and (pe_cmpR op_eq (pe_callB call_len_seq (by rfl) T.b_len (by decide +kernel) (pa_cons (pv 0) pa_nil)) pe_int (nomark _)) (pe_one (pe_c c_is_jobs hr (by decide) (by rfl) (pa_cons (pe_ix ix_tup (pv 0) pe_int (fun _ _ => rfl)) (pa_cons (pv 1) (pa_cons pe_int pa_nil)))))))), ?_⟩
    refine ⟨_, rfl, p, _, rfl, .inr (sq_tup hp), rfl, true, rfl, iteT ?_⟩
    exact ⟨_, rfl, p, _, 1, _, rfl, rfl, sq_tup hp, rfl, _, rfl, v, n, 2, js, rfl, jv, ok, by decide, by decide, fun H' s' => q _ s'⟩
/-- a test of the dict by its word -/
structure Tst (P : Program) (w : World) (K : PySem.W.Frag) (mg : Str → Option Value) (base : Heap) (aT : Addr) (fU fB : Addr) : Prop where
  u : Held P w K mg base 5 fU spUnlike
  b : Held P w K mg base 5 fB spBench
  iu : KDct K w aT "unlike" (.ref fU)
  ib : KDct K w aT "bench" (.ref fB)
  ne : fU ≠ fB
def tests (fU fB : Addr) (f : Addr) : Option Sp := if f = fU then some spUnlike else if f = fB then some spBench else none
abbrev s_is_wish : Stmt := topS 17
abbrev n_is_wish : List Str := ["value", "size", "test"]
theorem sc_is_wish : FnScope n_is_wish ["value", "size"] (defScope s_is_wish) := ⟨rfl, rfl, rfl, by decide +kernel, rfl, by decide +kernel, by decide +kernel⟩
def spWish : Sp := fun vs H Q _ => ∃ (v : V) (n : Nat) (x : Wish), vs = [v, .int n] ∧ WV H v x ∧ WishOk n x ∧ ∀ H', Same H H' → Q (.bl true) H'
theorem ok_is_wish {f fU fB : Addr} {fd : FuncData} (F : Fun K "is_wish" "is_wish" s_is_wish f fd) (T : Txt K mg w aW aT es nn) (S : Tst P w K mg base aT fU fB) : FnOk P w K mg base CX0 6 f fd ["value", "size"] spWish := by
  have AH : ∀ f sp, tests fU fB f = some sp → Held P w K mg base 5 f sp := fun f sp h => by
    unfold tests at h
    split at h
    · rename_i e
      cases h
      subst e
      exact S.u
    · split at h
      · rename_i e
        cases h
        subst e
        exact S.b
      · cases h
  have tu : tests fU fB fU = some spUnlike := if_pos rfl
  have tb : tests fU fB fB = some spBench := by unfold tests; rw [if_neg S.ne.symm, if_pos rfl]
  refine F.ok sc_is_wish (fun vs H Q E h => ?_) (fun cdv A outer s H vs Q E hr h => ?_)
  · obtain ⟨v, n, x, rfl, _⟩ := h
    rfl
  · obtain ⟨v, n, x, rfl, wv, ok, q⟩ := h
    refine ⟨_, (pss_cons (ps_if (PW.pt (pw_or (pt_not (pt_val (pe_callB call_isE (by rfl) T.b_isinstance (by decide +kernel) (pa_cons (pv 0) (pa_cons (pe_bltn (v := .ty "tuple") (by rfl) T.b_tuple boot_tuple rfl) pa_nil))))) (pw_or (pt_not (pt_truth (pv 0) (by intro _; rfl))) (pw_or1 (pt_not (pt_val (pe_callB call_isE (by rfl) T.b_isinstance (by decide +kernel) (pa_cons (pe_ix ix_tup (pv 0) pe_int (fun _ _ => rfl)) (pa_cons (pe_bltn (v := .ty "str") (by rfl) T.b_str boot_str rfl) pa_nil))))))))) (pss_one (ps_ret pe_bl)) pss_nil)
      (pss_cons (ps_if (pt_cmpR (op_notIn_kd T.kd) (pe_ix ix_tup (pv 0) pe_int (fun _ _ => rfl)) (pe_gc (by rfl) T.c_WISH_TESTS) (by rfl)) (pss_one (ps_ret pe_bl)) pss_nil)
      (pss_cons (ps_set (i := 2) sc_is_wish.nd rfl (.inl rfl) (pe_ix ix_kdict (pe_gc (by rfl) T.c_WISH_TESTS) (pe_ix ix_tup (pv 0) pe_int (fun _ _ => rfl)) (fun _ _ => rfl)))
      (pss_one (ps_ret (pe_callA (i := 2) AH hr rfl (.inl rfl) (pa_cons (pv 0) (pa_cons (pv 1) pa_nil)))))))), ?_⟩
    obtain ⟨p, wd, u, f1, rfl, hp, hd, rest⟩ : ∃ p wd u f1, v = .ref p ∧ H p = some (.tup [.str wd, u]) ∧ KDct K w aT wd (.ref f1) ∧ (∃ sp, tests fU fB f1 = some sp ∧ sp [.ref p, .int n] H Q (fun _ _ _ => False)) := by
      cases x with
      | unlike a =>
        obtain ⟨p, u, rfl, hp, lv⟩ := wv
        exact ⟨p, "unlike", u, fU, rfl, hp, S.iu, _, tu, p, _, u, n, a, rfl, hp, lv, ok.1, ok.2.1, ok.2.2.1, ok.2.2.2, fun H' s' => q _ s'⟩
      | bench js =>
        obtain ⟨p, u, rfl, hp, jv⟩ := wv
        exact ⟨p, "bench", u, fB, rfl, hp, S.ib, _, tb, p, _, u, n, js, rfl, hp, jv, ok, fun H' s' => q _ s'⟩
    obtain ⟨sp, hsp, run⟩ := rest
    refine ⟨_, rfl, .ref p, .type "tuple", "tuple", true, rfl, .base (.base (.tup hp)), by rfl, true, rfl, iteF ?_⟩
    obtain ⟨es', n', u', hk1, hk2, hk3, hk4⟩ := id hd
    refine ⟨_, rfl, true, .inr (.inl ⟨_, sq_tup hp, rfl⟩), iteF ?_⟩
    refine ⟨_, rfl, p, _, 0, _, rfl, rfl, sq_tup hp, rfl, .str wd, .type "str", "str", true, rfl, .base (.base (.str wd)), by rfl, true, rfl, iteF ?_⟩
    refine ⟨_, rfl, p, _, 0, _, rfl, rfl, sq_tup hp, rfl, wd, some u', rfl, rfl, hk3, _, rfl, iteF ?_⟩
    refine ⟨_, rfl, p, _, 0, _, rfl, rfl, sq_tup hp, rfl, aT, wd, _, rfl, rfl, hd, ?_⟩
    exact ⟨f1, sp, rfl, hsp, _, rfl, _, rfl, run⟩
end
end M63

namespace M63
open PySem PySem.Spec PyProof.Rows L2 SX Own Gd
open C8 (Cal pe_c pe_gc pe_mk Mak pss_cut)
/-! ### tasks -/
structure NmOk (s : Str) : Prop where
  l1 : 1 ≤ s.length
  l6 : s.length ≤ 6
  let_ : ∀ c ∈ s.cps.toList, c ∈ ("abcdefghijklmnopqrstuvwxyz" : Str).cps.toList
  w : inV (.str s) (wordsL.map V.str) = false
abbrev Unk := Str × Int × Int
def UV (H : Hp) (v : V) (u : Unk) : Prop := ∃ p, v = .ref p ∧ H p = some (.tup [.str u.1, .int u.2.1, .int u.2.2])
inductive UVs (H : Hp) : List V → List Unk → Prop
  | nil : UVs H [] []
  | cons {v : V} {vs : List V} {a : Unk} {as : List Unk} : UV H v a → UVs H vs as → UVs H (v :: vs) (a :: as)
theorem UV.same {H H' : Hp} {v : V} {u : Unk} (h : UV H v u) (s : Same H H') : UV H' v u := by
  obtain ⟨p, e, f⟩ := h
  exact ⟨p, e, s _ _ f⟩
theorem UVs.same {H H' : Hp} (s : Same H H') : ∀ {vs : List V} {as : List Unk}, UVs H vs as → UVs H' vs as
  | _, _, .nil => .nil
  | _, _, .cons h t => .cons (h.same s) (t.same s)
theorem UVs.len {H : Hp} : ∀ {vs : List V} {as : List Unk}, UVs H vs as → vs.length = as.length
  | _, _, .nil => rfl
  | _, _, .cons _ t => congrArg (· + 1) t.len
theorem UVs.at_ {H : Hp} : ∀ {vs : List V} {as : List Unk} {i : Nat} {v : V}, UVs H vs as → vs[i]? = some v → ∃ a, as[i]? = some a ∧ UV H v a
  | _, _, 0, _, .cons h t, e => by
    cases e
    exact ⟨_, rfl, h⟩
  | _, _, i + 1, _, .cons h t, e => by
    obtain ⟨r, e1, e2⟩ := t.at_ (i := i) (by simpa using e)
    exact ⟨r, by simpa using e1, e2⟩
structure UnkOk (us : List Unk) : Prop where
  ne : 1 ≤ us.length
  few : us.length ≤ 100
  nm : ∀ u ∈ us, NmOk u.1
  or_ : ∀ u ∈ us, u.2.1 ≤ u.2.2
  inc : ∀ i u v, us[i]? = some u → us[i + 1]? = some v → u.1.cps.toList < v.1.cps.toList
inductive WVs (H : Hp) : List V → List Wish → Prop
  | nil : WVs H [] []
  | cons {v : V} {vs : List V} {a : Wish} {as : List Wish} : WV H v a → WVs H vs as → WVs H (v :: vs) (a :: as)
theorem WVs.same {H H' : Hp} (s : Same H H') : ∀ {vs : List V} {as : List Wish}, WVs H vs as → WVs H' vs as
  | _, _, .nil => .nil
  | _, _, .cons h t => .cons (h.same s) (t.same s)
theorem WVs.len {H : Hp} : ∀ {vs : List V} {as : List Wish}, WVs H vs as → vs.length = as.length
  | _, _, .nil => rfl
  | _, _, .cons _ t => congrArg (· + 1) t.len
theorem WVs.at_ {H : Hp} : ∀ {vs : List V} {as : List Wish} {i : Nat} {v : V}, WVs H vs as → vs[i]? = some v → ∃ a, as[i]? = some a ∧ WV H v a
  | _, _, 0, _, .cons h t, e => by
    cases e
    exact ⟨_, rfl, h⟩
  | _, _, i + 1, _, .cons h t, e => by
    obtain ⟨r, e1, e2⟩ := t.at_ (i := i) (by simpa using e)
    exact ⟨r, by simpa using e1, e2⟩
section
variable {P : Program} {w : World} {K : PySem.W.Frag} {mg : Str → Option Value} {base : Heap} {aW aT : Addr} {es : Array DictEntry} {nn : Nat}
abbrev s_is_name : Stmt := topS 33
abbrev n_is_name : List Str := ["value", "sign"]
theorem sc_is_name : FnScope n_is_name ["value"] (defScope s_is_name) := ⟨rfl, rfl, rfl, by decide +kernel, rfl, by decide +kernel, by decide +kernel⟩
def spName : Sp := fun vs H Q _ => ∃ s : Str, vs = [.str s] ∧ NmOk s ∧ ∀ H', Same H H' → Q (.bl true) H'
theorem ok_is_name {f : Addr} {fd : FuncData} (F : Fun K "is_name" "is_name" s_is_name f fd) (T : Txt K mg w aW aT es nn) : FnOk P w K mg base CX0 1 f fd ["value"] spName := by
  refine F.ok sc_is_name (fun vs H Q E h => ?_) (fun cdv A outer s0 H vs Q E hr h => ?_)
  · obtain ⟨s, rfl, _⟩ := h
    rfl
  · obtain ⟨s, rfl, ok, q⟩ := h
    have l1 := ok.l1
    have l6 := ok.l6
    refine ⟨_, (pss_cons (ps_if (PW.pt (pw_or (pt_not (pt_val (pe_callB call_isE (by rfl) T.b_isinstance (by decide +kernel) (pa_cons (pv 0) (pa_cons (pe_bltn (v := .ty "str") (by rfl) T.b_str boot_str rfl) pa_nil))))) (pw_or (pt_not (pt_chain op_le op_le pe_int (pe_callB call_len_str (by rfl) T.b_len (by decide +kernel) (pa_cons (pv 0) pa_nil)) (pe_gc (by rfl) T.c_LONGEST_NAME))) (pw_or1 (pt_cmpR op_in_seq (pv 0) (pe_gc (by rfl) T.c_WORDS) (by rfl)))))) (pss_one (ps_ret pe_bl)) pss_nil)
      (pss_one (ps_ret (pe_callB (cr_all rfl) (by rfl) T.b_all (by decide +kernel) (pa_cons (pe_lc (own := [("sign", 1)]) rfl sc_is_name.nd (pi_str (pv 0)) (blkOk_by (N := n_is_name) (sc := defScope s_is_name) (by decide +kernel)) (fun _ _ _ _ _ => (pg_name (i := 1) sc_is_name.nd rfl (.inl rfl))) (fun _ _ _ _ _ => pts_nil) (fun _ _ _ _ _ => (pe_cmpR op_in_sign (pv 1) (pe_gc (by rfl) T.c_LETTERS) (by rfl)))) pa_nil))))), ?_⟩
    refine ⟨_, rfl, .str s, .type "str", "str", true, rfl, .base (.base (.str s)), by rfl, true, rfl, iteF ?_⟩
    refine ⟨_, rfl, s, rfl, Nat.le_trans l6 (by rw [sizeLine_eq]; decide), _, _, rfl, rfl, _, rfl, ite2 (fun _ => ?_) (fun h => absurd (decide_eq_true (show (1 : Int) ≤ (s.length : Int) by omega)) h)⟩
    refine ⟨_, _, rfl, rfl, _, rfl, ite2 (fun h => ?_) (fun _ => ?_)⟩
    · exact absurd h (by simp; omega)
    refine ⟨_, rfl, aW, _, rfl, .inr (T.qW H), rfl, by decide, _, rfl, ite2 (fun h => ?_) (fun _ => ?_)⟩
    · have h : inV (.str s) (wordsL.map V.str) = true := h
      rw [ok.w] at h
      cases h
    refine ⟨_, rfl, s, rfl, fun D nD => ?_⟩
    refine walk_str (x := s) (fun i H' => H' D = some (.lst ((List.replicate i true).map V.bl)) ∧ Same H H') ⟨upd_same, same_upd nD⟩ ?_ ?_
    · rintro i c H2 hc ⟨hD, sm⟩
      have li : i < s.cps.size := (Array.getElem?_eq_some_iff.mp hc).1
      have sl : s.cps.size = s.length := rfl
      have mc : c ∈ s.cps.toList := Array.mem_toList_iff.mpr (Array.mem_of_getElem? hc)
      refine ⟨rfl, _, rfl, c, _, rfl, rfl, _, hD, (by rw [List.length_map, List.length_replicate]; exact small1000 (by omega)), ?_, same_at sm nD⟩
      rw [upd_same, rep_app, decide_eq_true (ok.let_ c mc)]
    · rintro H2 ⟨hD, sm⟩
      refine ⟨D, _, rfl, sq_lst hD, ?_⟩
      rw [reps]
      exact q _ sm
abbrev s_is_pair : Stmt := topS 34
abbrev n_is_pair : List Str := ["value"]
theorem sc_is_pair : FnScope n_is_pair ["value"] (defScope s_is_pair) := ⟨rfl, rfl, rfl, by decide +kernel, rfl, by decide +kernel, by decide +kernel⟩
def spPair : Sp := fun vs H Q _ => ∃ (p : Addr) (a b : Int), vs = [.ref p] ∧ H p = some (.tup [.int a, .int b]) ∧ a ≤ b ∧ Q (.bl true) H
theorem ok_is_pair {f : Addr} {fd : FuncData} (F : Fun K "is_pair" "is_pair" s_is_pair f fd) (T : Txt K mg w aW aT es nn) (c_is_whole : Cal P w K mg base 1 "is_whole" spWhole []) : FnOk P w K mg base CX0 2 f fd ["value"] spPair := by
  refine F.ok sc_is_pair (fun vs H Q E h => ?_) (fun cdv A outer s0 H vs Q E hr h => ?_)
  · obtain ⟨p, a, b, rfl, _⟩ := h
    rfl
  · obtain ⟨p, a, b, rfl, hp, ab, q⟩ := h
    refine ⟨_, (pss_cons (ps_if (PW.pt (pw_or (pt_not (pt_val (pe_callB call_isE (by rfl) T.b_isinstance (by decide +kernel) (pa_cons (pv 0) (pa_cons (pe_bltn (v := .ty "tuple") (by rfl) T.b_tuple boot_tuple rfl) pa_nil))))) (pw_or1 (pt_cmpR op_ne (pe_callB call_len_seq (by rfl) T.b_len (by decide +kernel) (pa_cons (pv 0) pa_nil)) pe_int (nomark _))))) (pss_one (ps_ret pe_bl)) pss_nil)
      (pss_one (ps_ret (pe_and (pe_c c_is_whole hr (by decide) (by rfl) (pa_cons (pe_ix ix_tup (pv 0) pe_int (fun _ _ => rfl)) pa_nil)) (pe_and (pe_c c_is_whole hr (by decide) (by rfl) (pa_cons (pe_ix ix_tup (pv 0) pe_int (fun _ _ => rfl)) pa_nil)) (pe_one (pe_cmpR op_le (pe_ix ix_tup (pv 0) pe_int (fun _ _ => rfl)) (pe_ix ix_tup (pv 0) pe_int (fun _ _ => rfl)) (nomark _)))))))), ?_⟩
    refine ⟨_, rfl, .ref p, .type "tuple", "tuple", true, rfl, .base (.base (.tup hp)), by rfl, true, rfl, iteF ?_⟩
    refine ⟨_, rfl, p, _, rfl, .inr (sq_tup hp), rfl, _, rfl, iteF ?_⟩
    refine ⟨_, rfl, p, _, 0, _, rfl, rfl, sq_tup hp, rfl, a, rfl, true, rfl, iteT ?_⟩
    refine ⟨_, rfl, p, _, 1, _, rfl, rfl, sq_tup hp, rfl, b, rfl, true, rfl, iteT ?_⟩
    refine ⟨_, rfl, p, _, 0, _, rfl, rfl, sq_tup hp, rfl, _, rfl, p, _, 1, _, rfl, rfl, sq_tup hp, rfl, _, _, rfl, rfl, ?_⟩
    rw [show (fun i j : Int => V.bl (decide (i ≤ j))) a b = V.bl true from congrArg V.bl (decide_eq_true ab)]
    exact q
abbrev s_is_unknown : Stmt := topS 35
abbrev n_is_unknown : List Str := ["value"]
theorem sc_is_unknown : FnScope n_is_unknown ["value"] (defScope s_is_unknown) := ⟨rfl, rfl, rfl, by decide +kernel, rfl, by decide +kernel, by decide +kernel⟩
def spUnknown : Sp := fun vs H Q _ => ∃ (v : V) (u : Unk), vs = [v] ∧ UV H v u ∧ NmOk u.1 ∧ u.2.1 ≤ u.2.2 ∧ ∀ H', Same H H' → Q (.bl true) H'
theorem ok_is_unknown {f : Addr} {fd : FuncData} (F : Fun K "_is_unknown" "_is_unknown" s_is_unknown f fd) (T : Txt K mg w aW aT es nn) (c_is_name : Cal P w K mg base 1 "is_name" spName []) (c_is_pair : Cal P w K mg base 2 "is_pair" spPair []) : FnOk P w K mg base CX0 3 f fd ["value"] spUnknown := by
  refine F.ok sc_is_unknown (fun vs H Q E h => ?_) (fun cdv A outer s0 H vs Q E hr h => ?_)
  · obtain ⟨v, u, rfl, _⟩ := h
    rfl
  · obtain ⟨v, ⟨s, lo, hi⟩, rfl, ⟨p, rfl, hp⟩, ok, lh, q⟩ := h
    refine ⟨_, (pss_cons (ps_if (PW.pt (pw_or (pt_not (pt_val (pe_callB call_isE (by rfl) T.b_isinstance (by decide +kernel) (pa_cons (pv 0) (pa_cons (pe_bltn (v := .ty "tuple") (by rfl) T.b_tuple boot_tuple rfl) pa_nil))))) (pw_or1 (pt_cmpR op_ne (pe_callB call_len_seq (by rfl) T.b_len (by decide +kernel) (pa_cons (pv 0) pa_nil)) pe_int (nomark _))))) (pss_one (ps_ret pe_bl)) pss_nil)
      (pss_one (ps_ret (pe_and (pe_c c_is_name hr (by decide) (by rfl) (pa_cons (pe_ix ix_tup (pv 0) pe_int (fun _ _ => rfl)) pa_nil)) (pe_one (pe_c c_is_pair hr (by decide) (by rfl) (pa_cons (pe_slice sl_tupA (pv 0) (po_some pe_int) po_none) pa_nil))))))), ?_⟩
    refine ⟨_, rfl, .ref p, .type "tuple", "tuple", true, rfl, .base (.base (.tup hp)), by rfl, true, rfl, iteF ?_⟩
    refine ⟨_, rfl, p, _, rfl, .inr (sq_tup hp), rfl, _, rfl, iteF ?_⟩
    refine ⟨_, rfl, p, _, 0, _, rfl, rfl, sq_tup hp, rfl, s, rfl, ok, fun H1 s1 => ⟨true, rfl, iteT ?_⟩⟩
    refine ⟨_, rfl, _, rfl, p, _, rfl, sq_tup (s1 _ _ hp), (fun z => absurd (show (1 : Nat) = 0 from z.1) (by decide)), fun _ y ny => ?_⟩
    refine ⟨y, lo, hi, rfl, upd_same, lh, q _ (s1.trans (same_upd ny))⟩
abbrev s_check_unknowns : Stmt := topS 36
abbrev n_check_unknowns : List Str := ["value", "at", "item"]
theorem sc_check_unknowns : FnScope n_check_unknowns ["value"] (defScope s_check_unknowns) := ⟨rfl, rfl, rfl, by decide +kernel, rfl, by decide +kernel, by decide +kernel⟩
def spChU : Sp := fun vs H Q _ => ∃ (p : Addr) (us : List V) (ul : List Unk), vs = [.ref p] ∧ H p = some (.tup us) ∧ UVs H us ul ∧ UnkOk ul ∧ ∀ H', Same H H' → Q .non H'
theorem ok_check_unknowns {f : Addr} {fd : FuncData} (F : Fun K "_check_unknowns" "_check_unknowns" s_check_unknowns f fd) (T : Txt K mg w aW aT es nn) (c_is_unknown : Cal P w K mg base 3 "_is_unknown" spUnknown []) : FnOk P w K mg base CX0 4 f fd ["value"] spChU := by
  refine F.ok sc_check_unknowns (fun vs H Q E h => ?_) (fun cdv A outer s0 H vs Q E hr h => ?_)
  · obtain ⟨p, us, ul, rfl, _⟩ := h
    rfl
  · obtain ⟨p, us, ul, rfl, hp, uv, ok, q⟩ := h
    have ne := ok.ne
    have lu := uv.len
    refine ⟨_, (pss_cons (ps_if (PW.pt (pw_or (pt_not (pt_val (pe_callB call_isE (by rfl) T.b_isinstance (by decide +kernel) (pa_cons (pv 0) (pa_cons (pe_bltn (v := .ty "tuple") (by rfl) T.b_tuple boot_tuple rfl) pa_nil))))) (pw_or1 (pt_not (pt_truth (pv 0) (by intro _; rfl)))))) (pss_one ps_dead) pss_nil)
      (pss_one (ps_for PassesOwn.never rfl (pi_enT (by rfl) T.b_enumerate (pa_cons (pv 0) pa_nil)) (pg_tup rfl (pgs_cons (pg_name (i := 1) sc_check_unknowns.nd rfl (.inl rfl)) (pgs_cons (pg_name (i := 2) sc_check_unknowns.nd rfl (.inl rfl)) pgs_nil))) (pss_one (ps_if (PW.pt (pw_or (pt_not (pt_val (pe_c c_is_unknown hr (by decide) (by rfl) (pa_cons (pv 2) pa_nil)))) (pw_or1 (PW.pt (pw_and (pt_cmpR op_gt (pv 1) pe_int (nomark _)) (pw_and1 (pt_cmpR op_le_str (pe_ix ix_tup (pv 2) pe_int (fun _ _ => rfl)) (pe_ix ix_tup (pe_ix ix_tup (pv 0) (pe_op op_sub (pv 1) pe_int) (fun _ _ => rfl)) pe_int (fun _ _ => rfl)) (nomark _)))))))) (pss_one ps_dead) pss_nil))))), ?_⟩
    refine ⟨_, rfl, .ref p, .type "tuple", "tuple", true, rfl, .base (.base (.tup hp)), by rfl, true, rfl, iteF ?_⟩
    refine ⟨_, rfl, true, .inr (.inl ⟨us, sq_tup hp, by cases us with | nil => simp at lu; omega | cons a b => rfl⟩), iteF ?_⟩
    refine ⟨_, rfl, p, us, rfl, sq_tup hp, for_enT (K := K) (a := p) (xs := us) (fun i σ H' => ∃ (y1 y2 : Option V), σ = [some (.ref p), y1, y2] ∧ Same H H')
      ⟨none, none, rfl, Same.refl _⟩ (fun i σ H' h => ?_) (fun i x T' σ H' hx h nT => ?_) (fun σ H' h => ?_)⟩
    · obtain ⟨y1, y2, rfl, sm⟩ := h
      exact sq_tup (sm _ _ hp)
    · obtain ⟨y1, y2, rfl, sm⟩ := h
      obtain ⟨u, hu, pu, rfl, hpu⟩ := uv.at_ hx
      have mu := List.mem_of_getElem? hu
      have sT := same_at (o := .tup [.int (i : Nat), .ref pu]) sm (sm.free nT)
      refine ⟨T', _, rfl, sq_tup upd_same, rfl, _, _, rfl, _, _, rfl, rfl, ?_⟩
      refine ⟨_, rfl, .ref pu, u, rfl, ⟨pu, rfl, sT _ _ hpu⟩, ok.nm u mu, ok.or_ u mu, fun H2 s2 => ⟨true, rfl, iteF ?_⟩⟩
      have s02 := sT.trans s2
      refine ⟨_, rfl, _, _, rfl, rfl, _, rfl, ite2 (fun h1 => ?_) (fun h1 => iteF ⟨_, _, rfl, s02⟩)⟩
      have h1 : (0 : Int) < (i : Int) := of_decide_eq_true h1
      obtain ⟨i', rfl⟩ : ∃ i', i = i' + 1 := ⟨i - 1, by omega⟩
      have hi' : i' < ul.length := by have := (List.getElem?_eq_some_iff.mp hu).1; omega
      have hx' : us[i']? = some us[i'] := List.getElem?_eq_getElem (by omega)
      obtain ⟨u', hu', pu', ex', hpu'⟩ := uv.at_ hx'
      have lt := ok.inc i' u' u hu' hu
      rw [ex'] at hx'
      refine ⟨_, rfl, pu, _, 0, _, rfl, rfl, sq_tup (s02 _ _ hpu), rfl, _, rfl, _, rfl, _, _, rfl, rfl, p, _, _, .ref pu', rfl, rfl, sq_tup (s02 _ _ hp), ?_, pu', _, 0, _, rfl, rfl, sq_tup (s02 _ _ hpu'), rfl, _, _, rfl, rfl, _, rfl, ?_⟩
      · rw [show (((i' + 1 : Nat) : Int) - 1) = (i' : Int) by omega]
        exact atI_nat hx'
      · rw [decide_eq_true lt]
        exact iteF ⟨_, _, rfl, s02⟩
    · obtain ⟨y1, y2, rfl, sm⟩ := h
      exact q _ sm
abbrev s_check_wishes : Stmt := topS 37
abbrev n_check_wishes : List Str := ["value", "size", "at", "item"]
theorem sc_check_wishes : FnScope n_check_wishes ["value", "size"] (defScope s_check_wishes) := ⟨rfl, rfl, rfl, by decide +kernel, rfl, by decide +kernel, by decide +kernel⟩
def spChW : Sp := fun vs H Q _ => ∃ (p : Addr) (us : List V) (n : Nat) (wl : List Wish), vs = [.ref p, .int n] ∧ H p = some (.tup us) ∧ WVs H us wl ∧ (∀ x ∈ wl, WishOk n x) ∧ ∀ H', Same H H' → Q .non H'
theorem ok_check_wishes {f : Addr} {fd : FuncData} (F : Fun K "_check_wishes" "_check_wishes" s_check_wishes f fd) (T : Txt K mg w aW aT es nn) (c_is_wish : Cal P w K mg base 6 "is_wish" spWish []) : FnOk P w K mg base CX0 7 f fd ["value", "size"] spChW := by
  refine F.ok sc_check_wishes (fun vs H Q E h => ?_) (fun cdv A outer s0 H vs Q E hr h => ?_)
  · obtain ⟨p, us, n, wl, rfl, _⟩ := h
    rfl
  · obtain ⟨p, us, n, wl, rfl, hp, wv, ok, q⟩ := h
    refine ⟨_, (pss_cons (ps_if (pt_not (pt_val (pe_callB call_isE (by rfl) T.b_isinstance (by decide +kernel) (pa_cons (pv 0) (pa_cons (pe_bltn (v := .ty "tuple") (by rfl) T.b_tuple boot_tuple rfl) pa_nil))))) (pss_one ps_dead) pss_nil)
      (pss_one (ps_for PassesOwn.never rfl (pi_enT (by rfl) T.b_enumerate (pa_cons (pv 0) pa_nil)) (pg_tup rfl (pgs_cons (pg_name (i := 2) sc_check_wishes.nd rfl (.inl rfl)) (pgs_cons (pg_name (i := 3) sc_check_wishes.nd rfl (.inl rfl)) pgs_nil))) (pss_one (ps_if (pt_not (pt_val (pe_c c_is_wish hr (by decide) (by rfl) (pa_cons (pv 3) (pa_cons (pv 1) pa_nil))))) (pss_one ps_dead) pss_nil))))), ?_⟩
    refine ⟨_, rfl, .ref p, .type "tuple", "tuple", true, rfl, .base (.base (.tup hp)), by rfl, true, rfl, iteF ?_⟩
    refine ⟨_, rfl, p, us, rfl, sq_tup hp, for_enT (K := K) (a := p) (xs := us) (fun i σ H' => ∃ (y1 y2 : Option V), σ = [some (.ref p), some (.int (n : Int)), y1, y2] ∧ Same H H')
      ⟨none, none, rfl, Same.refl _⟩ (fun i σ H' h => ?_) (fun i x T' σ H' hx h nT => ?_) (fun σ H' h => ?_)⟩
    · obtain ⟨y1, y2, rfl, sm⟩ := h
      exact sq_tup (sm _ _ hp)
    · obtain ⟨y1, y2, rfl, sm⟩ := h
      obtain ⟨u, hu, wu⟩ := wv.at_ hx
      have mu := List.mem_of_getElem? hu
      have sT := same_at (o := .tup [.int (i : Nat), x]) sm (sm.free nT)
      refine ⟨T', _, rfl, sq_tup upd_same, rfl, _, _, rfl, _, _, rfl, rfl, ?_⟩
      exact ⟨_, rfl, _, rfl, x, n, u, rfl, wu.same sT, ok u mu, fun H2 s2 => ⟨true, rfl, iteF ⟨_, _, rfl, sT.trans s2⟩⟩⟩
    · obtain ⟨y1, y2, rfl, sm⟩ := h
      exact q _ sm
abbrev s_check_goal : Stmt := topS 38
abbrev n_check_goal : List Str := ["value", "size", "at", "item"]
theorem sc_check_goal : FnScope n_check_goal ["value", "size"] (defScope s_check_goal) := ⟨rfl, rfl, rfl, by decide +kernel, rfl, by decide +kernel, by decide +kernel⟩
def spChG : Sp := fun vs H Q _ => ∃ (v : V) (a : List Int), vs = [v, .int (a.length : Nat)] ∧ LV H v a ∧ ∀ H', Same H H' → Q .non H'
theorem ok_check_goal {f : Addr} {fd : FuncData} (F : Fun K "_check_goal" "_check_goal" s_check_goal f fd) (T : Txt K mg w aW aT es nn) (c_is_whole : Cal P w K mg base 1 "is_whole" spWhole []) : FnOk P w K mg base CX0 2 f fd ["value", "size"] spChG := by
  refine F.ok sc_check_goal (fun vs H Q E h => ?_) (fun cdv A outer s0 H vs Q E hr h => ?_)
  · obtain ⟨v, a, rfl, _⟩ := h
    rfl
  · obtain ⟨v, a, rfl, ⟨p, rfl, hp⟩, q⟩ := h
    refine ⟨_, (pss_cons (ps_if (PW.pt (pw_or (pt_not (pt_val (pe_callB call_isE (by rfl) T.b_isinstance (by decide +kernel) (pa_cons (pv 0) (pa_cons (pe_bltn (v := .ty "tuple") (by rfl) T.b_tuple boot_tuple rfl) pa_nil))))) (pw_or1 (pt_cmpR op_ne (pe_callB call_len_seq (by rfl) T.b_len (by decide +kernel) (pa_cons (pv 0) pa_nil)) (pv 1) (nomark _))))) (pss_one ps_dead) pss_nil)
      (pss_one (ps_for PassesOwn.never rfl (pi_enT (by rfl) T.b_enumerate (pa_cons (pv 0) pa_nil)) (pg_tup rfl (pgs_cons (pg_name (i := 2) sc_check_goal.nd rfl (.inl rfl)) (pgs_cons (pg_name (i := 3) sc_check_goal.nd rfl (.inl rfl)) pgs_nil))) (pss_one (ps_if (pt_not (pt_val (pe_c c_is_whole hr (by decide) (by rfl) (pa_cons (pv 3) pa_nil)))) (pss_one ps_dead) pss_nil))))), ?_⟩
    refine ⟨_, rfl, .ref p, .type "tuple", "tuple", true, rfl, .base (.base (.tup hp)), by rfl, true, rfl, iteF ?_⟩
    refine ⟨_, rfl, p, _, rfl, .inr (sq_tup hp), _, rfl, rfl, _, rfl, ite2 (fun h => absurd h (by simp)) (fun _ => ?_)⟩
    refine ⟨_, rfl, p, _, rfl, sq_tup hp, for_enT (K := K) (a := p) (xs := a.map V.int) (fun i σ H' => ∃ (y1 y2 : Option V), σ = [some (.ref p), some (.int (a.length : Nat)), y1, y2] ∧ Same H H')
      ⟨none, none, rfl, Same.refl _⟩ (fun i σ H' h => ?_) (fun i x T' σ H' hx h nT => ?_) (fun σ H' h => ?_)⟩
    · obtain ⟨y1, y2, rfl, sm⟩ := h
      exact sq_tup (sm _ _ hp)
    · obtain ⟨y1, y2, rfl, sm⟩ := h
      obtain ⟨c, hc, rfl⟩ := at_map hx
      have sT := same_at (o := .tup [.int (i : Nat), .int c]) sm (sm.free nT)
      refine ⟨T', _, rfl, sq_tup upd_same, rfl, _, _, rfl, _, _, rfl, rfl, ?_⟩
      exact ⟨_, rfl, c, rfl, true, rfl, iteF ⟨_, _, rfl, sT⟩⟩
    · obtain ⟨y1, y2, rfl, sm⟩ := h
      exact q _ sm
abbrev s_Task_init : Stmt := inS 32 0
abbrev n_Task_init : List Str := ["self", "unknowns", "wishes", "goal"]
theorem sc_Task_init : FnScope n_Task_init ["self", "unknowns", "wishes", "goal"] (defScope s_Task_init) := ⟨rfl, rfl, rfl, by decide +kernel, rfl, by decide +kernel, by decide +kernel⟩
/-- a task at x -/
def TaskV (C : Addr) (H : Hp) (v : V) (ul : List Unk) (wl : List Wish) (goal : List Int) : Prop := ∃ x dx pu pw pg us ws, v = .ref x ∧ H x = some (.ins C dx [("unknowns", .ref pu), ("wishes", .ref pw), ("goal", .ref pg)]) ∧ H pu = some (.tup us) ∧ UVs H us ul ∧ H pw = some (.tup ws) ∧ WVs H ws wl ∧ H pg = some (tI goal)
theorem put_ne {f g : Str} {v x : V} {r : List (Str × V)} (h : ¬ g = f) : putF f v ((g, x) :: r) = (g, x) :: putF f v r := if_neg h
theorem puts2 (u w : V) : putF "wishes" w (putF "unknowns" u []) = ([("unknowns", u), ("wishes", w)] : List (Str × V)) := put_ne (by decide)
theorem puts3 (u w g : V) : putF "goal" g (putF "wishes" w (putF "unknowns" u [])) = ([("unknowns", u), ("wishes", w), ("goal", g)] : List (Str × V)) := by
  rw [puts2, put_ne (by decide), put_ne (by decide)]; rfl
def spTask (C : Addr) : Sp := fun vs H Q _ => ∃ (x dx pu pw pg : Addr) (us ws : List V) (ul : List Unk) (wl : List Wish) (goal : List Int), vs = [.ref x, .ref pu, .ref pw, .ref pg] ∧ H x = some (.ins C dx []) ∧ H pu = some (.tup us) ∧ UVs H us ul ∧ H pw = some (.tup ws) ∧ WVs H ws wl ∧ H pg = some (tI goal) ∧
  UnkOk ul ∧ (∀ z ∈ wl, WishOk ul.length z) ∧ goal.length = ul.length ∧ ∀ H1, Same H H1 → Q .non (upd H1 x (.ins C dx [("unknowns", .ref pu), ("wishes", .ref pw), ("goal", .ref pg)]))
theorem ok_Task_init {f C : Addr} {fd : FuncData} (F : Fun K "__init__" "Task.__init__" s_Task_init f fd) (cl : Cls K C) (na : NoAttr K C "unknowns" ∧ NoAttr K C "wishes" ∧ NoAttr K C "goal") (T : Txt K mg w aW aT es nn) (c_check_unknowns : Cal P w K mg base 4 "_check_unknowns" spChU []) (c_check_wishes : Cal P w K mg base 7 "_check_wishes" spChW []) (c_check_goal : Cal P w K mg base 2 "_check_goal" spChG []) :
    FnOk P w K mg base CX0 8 f fd ["self", "unknowns", "wishes", "goal"] (spTask C) := by
  refine F.ok sc_Task_init (fun vs H Q E h => ?_) (fun cdv A outer s0 H vs Q E hr h => ?_)
  · obtain ⟨x, dx, pu, pw, pg, us, ws, ul, wl, goal, rfl, _⟩ := h
    rfl
  · obtain ⟨x, dx, pu, pw, pg, us, ws, ul, wl, goal, rfl, hx, hpu, uv, hpw, wv, hpg, uo, wo, lg, q⟩ := h
    refine ⟨_, (pss_cons (ps_expr (pe_c c_check_unknowns hr (by decide) (by rfl) (pa_cons (pv 1) pa_nil)))
      (pss_cons (ps_expr (pe_c c_check_wishes hr (by decide) (by rfl) (pa_cons (pv 2) (pa_cons (pe_callB call_len_seq (by rfl) T.b_len (by decide +kernel) (pa_cons (pv 1) pa_nil)) pa_nil))))
      (pss_cons (ps_expr (pe_c c_check_goal hr (by decide) (by rfl) (pa_cons (pv 3) (pa_cons (pe_callB call_len_seq (by rfl) T.b_len (by decide +kernel) (pa_cons (pv 1) pa_nil)) pa_nil))))
      (pss_cons (ps_fld (pv 0) (pv 1) (by rfl))
      (pss_cons (ps_fld (pv 0) (pv 2) (by rfl))
      (pss_one (ps_fld (pv 0) (pv 3) (by rfl)))))))), ?_⟩
    refine ⟨_, rfl, pu, us, ul, rfl, hpu, uv, uo, fun H1 s1 => ?_⟩
    refine ⟨_, rfl, _, rfl, pu, _, rfl, .inr (sq_tup (s1 _ _ hpu)), pw, ws, ul.length, wl, by rw [uv.len]; rfl, s1 _ _ hpw, wv.same s1, wo, fun H2 s2 => ?_⟩
    have s12 := s1.trans s2
    refine ⟨_, rfl, _, rfl, pu, _, rfl, .inr (sq_tup (s12 _ _ hpu)), .ref pg, goal, by rw [uv.len, lg]; rfl, ⟨pg, rfl, s12 _ _ hpg⟩, fun H3 s3 => ?_⟩
    have s13 := s12.trans s3
    refine ⟨_, rfl, _, rfl, x, C, dx, [], rfl, s13 _ _ hx, cl, na.1, by decide, ?_⟩
    refine ⟨_, rfl, _, rfl, x, C, dx, _, rfl, upd_same, cl, na.2.1, by show 1 < 1000; decide, ?_⟩
    refine ⟨_, rfl, _, rfl, x, C, dx, _, rfl, upd_same, cl, na.2.2, ?_, ?_⟩
    · rw [puts2]; show 2 < 1000; decide
    rw [puts3, upd_upd, upd_upd]
    exact q _ s13
end
end M63

namespace M63
/-! ### jobs in a sequence -/
abbrev Win := Int × Int × Int × Int
def W0 : Win := (0, 0, 0, 0)
/-- when a job starts that is not begun before t -/
def stW (t : Int) (w : Win) : Int := if t < w.1 then w.1 else t
def goT (ws : List Win) : List Nat → List Int → Int → Option (List Int × Int)
  | [], f, t => some (f, t)
  | j :: r, f, t => if (ws.getD j W0).2.1 < stW t (ws.getD j W0) then none else goT ws r (f.set j (stW t (ws.getD j W0))) (stW t (ws.getD j W0) + (ws.getD j W0).2.2.1)
def endT (ws : List Win) : List Nat → Int → Option Int
  | [], t => some t
  | j :: r, t => if (ws.getD j W0).2.1 < stW t (ws.getD j W0) then none else endT ws r (stW t (ws.getD j W0) + (ws.getD j W0).2.2.1)
theorem stW_le {t t' : Int} (h : t ≤ t') (w : Win) : stW t w ≤ stW t' w := by unfold stW; split <;> split <;> omega
theorem stW_ge (t : Int) (w : Win) : t ≤ stW t w ∧ w.1 ≤ stW t w := by unfold stW; split <;> omega
theorem goT_end (ws : List Win) : ∀ (s : List Nat) (f : List Int) (t : Int), (goT ws s f t).map (·.2) = endT ws s t
  | [], f, t => rfl
  | j :: r, f, t => by
    unfold goT endT
    split
    · rfl
    · exact goT_end ws r _ _
theorem endT_mono (ws : List Win) : ∀ (s : List Nat) {t t' e' : Int}, t ≤ t' → endT ws s t' = some e' → ∃ e, endT ws s t = some e ∧ e ≤ e'
  | [], t, t', e', h, he => by
    cases he
    exact ⟨t, rfl, h⟩
  | j :: r, t, t', e', h, he => by
    unfold endT at he ⊢
    have m := stW_le h (ws.getD j W0)
    split at he
    · cases he
    · rw [if_neg (by omega)]
      exact endT_mono ws r (by omega) he
theorem endT_app (ws : List Win) : ∀ (s r : List Nat) (t : Int), endT ws (s ++ r) t = (endT ws s t).bind (endT ws r)
  | [], r, t => rfl
  | j :: s, r, t => by
    rw [List.cons_append]
    unfold endT
    split
    · rfl
    · exact endT_app ws s r _
/-- the best last job of the lot d, out of the jobs before k -/
def better (b : Option (Int × Nat)) (e : Int) : Prop := match b with
  | none => True
  | some x => e < x.1
instance (b : Option (Int × Nat)) (e : Int) : Decidable (better b e) := by unfold better; split <;> infer_instance
def pick1 (w : Win) (k : Nat) (b : Option (Int × Nat)) (t : Int) : Option (Int × Nat) :=
  if stW t w ≤ w.2.1 ∧ better b (stW t w + w.2.2.1) then some (stW t w + w.2.2.1, k) else b
def scan (ws : List Win) (T : Nat → Option (Int × Nat)) (d : Nat) : Nat → Option (Int × Nat)
  | 0 => none
  | k + 1 => if d.testBit k = true then match T (d ^^^ 2 ^ k) with
      | none => scan ws T d k
      | some x => pick1 (ws.getD k W0) k (scan ws T d k) x.1
    else scan ws T d k
theorem scan_some {ws : List Win} {T : Nat → Option (Int × Nat)} {d : Nat} : ∀ {n : Nat} {e : Int} {j : Nat}, scan ws T d n = some (e, j) →
    j < n ∧ d.testBit j = true ∧ ∃ x, T (d ^^^ 2 ^ j) = some x ∧ stW x.1 (ws.getD j W0) ≤ (ws.getD j W0).2.1 ∧ e = stW x.1 (ws.getD j W0) + (ws.getD j W0).2.2.1
  | 0, e, j, h => by cases h
  | k + 1, e, j, h => by
    have up : scan ws T d k = some (e, j) → j < k + 1 ∧ d.testBit j = true ∧ ∃ x, T (d ^^^ 2 ^ j) = some x ∧ stW x.1 (ws.getD j W0) ≤ (ws.getD j W0).2.1 ∧ e = stW x.1 (ws.getD j W0) + (ws.getD j W0).2.2.1 := fun h => by
      obtain ⟨a, b⟩ := scan_some h
      exact ⟨by omega, b⟩
    unfold scan at h
    by_cases hb : d.testBit k = true
    · rw [if_pos hb] at h
      cases hT : T (d ^^^ 2 ^ k) with
      | none => rw [hT] at h; exact up h
      | some x =>
        rw [hT] at h
        have h : pick1 (ws.getD k W0) k (scan ws T d k) x.1 = some (e, j) := h
        unfold pick1 at h
        split at h
        · rename_i c
          cases h
          exact ⟨by omega, hb, x, hT, c.1, rfl⟩
        · exact up h
    · rw [if_neg hb] at h
      exact up h
theorem scan_le {ws : List Win} {T : Nat → Option (Int × Nat)} {d : Nat} : ∀ {n j : Nat} {x : Int × Nat}, j < n → d.testBit j = true → T (d ^^^ 2 ^ j) = some x → stW x.1 (ws.getD j W0) ≤ (ws.getD j W0).2.1 →
    ∃ y, scan ws T d n = some y ∧ y.1 ≤ stW x.1 (ws.getD j W0) + (ws.getD j W0).2.2.1
  | 0, j, x, h, _, _, _ => absurd h (Nat.not_lt_zero _)
  | k + 1, j, x, hj, hb, hT, hs => by
    have keep : ∀ y, scan ws T d k = some y → ∃ z, scan ws T d (k + 1) = some z ∧ z.1 ≤ y.1 := fun y hy => by
      unfold scan
      by_cases hb : d.testBit k = true
      · rw [if_pos hb]
        cases hT : T (d ^^^ 2 ^ k) with
        | none => exact ⟨y, hy, Int.le_refl _⟩
        | some x =>
          show ∃ z, pick1 (ws.getD k W0) k (scan ws T d k) x.1 = some z ∧ z.1 ≤ y.1
          unfold pick1
          split
          · rename_i c
            have c2 := c.2
            rw [hy] at c2
            exact ⟨_, rfl, Int.le_of_lt c2⟩
          · exact ⟨y, hy, Int.le_refl _⟩
      · rw [if_neg hb]
        exact ⟨y, hy, Int.le_refl _⟩
    by_cases e : j = k
    · subst e
      unfold scan
      rw [if_pos hb, hT]
      show ∃ z, pick1 (ws.getD j W0) j (scan ws T d j) x.1 = some z ∧ z.1 ≤ _
      unfold pick1
      split
      · exact ⟨_, rfl, Int.le_refl _⟩
      · rename_i c
        cases hy : scan ws T d j with
        | none => rw [hy] at c; exact absurd ⟨hs, trivial⟩ c
        | some y =>
          rw [hy] at c
          refine ⟨y, rfl, Int.not_lt.mp fun z => c ⟨hs, z⟩⟩
    · obtain ⟨y, hy, ly⟩ := scan_le (n := k) (by omega) hb hT hs
      obtain ⟨z, hz, lz⟩ := keep y hy
      exact ⟨z, hz, Int.le_trans lz ly⟩
/-! ### lots of jobs as bits -/
theorem bit_off {d j : Nat} (h : d.testBit j = true) (i : Nat) : (d ^^^ 2 ^ j).testBit i = (decide (i ≠ j) && d.testBit i) := by
  rw [Nat.testBit_xor, Nat.testBit_two_pow]
  by_cases e : j = i
  · subst e
    rw [h]; simp
  · have e2 : ¬ i = j := fun z => e z.symm
    simp [e, e2]
theorem bit_lt : ∀ {j d : Nat}, d.testBit j = true → d ^^^ 2 ^ j < d
  | 0, d, h => by
    have h1 : d % 2 = 1 := by rw [Nat.testBit_zero] at h; exact of_decide_eq_true h
    have a : (d ^^^ 2 ^ 0) / 2 = d / 2 := by rw [Nat.xor_div_two]; exact Nat.xor_zero _
    have b : (d ^^^ 2 ^ 0) % 2 = 0 := by
      have e : (d ^^^ 2 ^ 0).testBit 0 = false := by rw [Nat.testBit_xor, h]; rfl
      rw [Nat.testBit_zero] at e
      have := of_decide_eq_false e
      omega
    omega
  | j + 1, d, h => by
    rw [Nat.testBit_succ] at h
    have ih := bit_lt (j := j) h
    have a : (d ^^^ 2 ^ (j + 1)) / 2 = d / 2 ^^^ 2 ^ j := by rw [Nat.xor_div_two, Nat.pow_succ, Nat.mul_div_cancel _ (by decide)]
    rw [← a] at ih
    omega
theorem bit_small {d n j : Nat} (hd : d < 2 ^ n) (h : d.testBit j = true) : j < n := by
  refine Nat.not_le.mp fun z => ?_
  have := Nat.testBit_lt_two_pow (Nat.lt_of_lt_of_le hd (Nat.pow_le_pow_right (by decide) z))
  rw [this] at h; cases h
theorem no_bits {d : Nat} (h : ∀ j, d.testBit j = false) : d = 0 := Nat.eq_of_testBit_eq fun i => by rw [h i, Nat.zero_testBit]
structure Ord (d : Nat) (s : List Nat) : Prop where
  nd : s.Nodup
  mem : ∀ j, j ∈ s ↔ d.testBit j = true
theorem Ord.snoc {d j : Nat} {s : List Nat} (o : Ord d (s ++ [j])) : d.testBit j = true ∧ Ord (d ^^^ 2 ^ j) s := by
  have hj : d.testBit j = true := (o.mem j).mp (List.mem_append_right _ (List.mem_cons_self ..))
  have nd := List.nodup_append.mp o.nd
  have nj : ∀ i ∈ s, i ≠ j := fun i hi => nd.2.2 i hi j (List.mem_cons_self ..)
  refine ⟨hj, nd.1, fun i => ?_⟩
  rw [bit_off hj]
  constructor
  · intro hi
    have := (o.mem i).mp (List.mem_append_left _ hi)
    rw [this, decide_eq_true (nj i hi)]; rfl
  · intro hi
    rw [Bool.and_eq_true] at hi
    have := (o.mem i).mpr hi.2
    rcases List.mem_append.mp this with h | h
    · exact h
    · exact absurd (List.mem_singleton.mp h) (of_decide_eq_true hi.1)
/-- the table of the best ends of lots below m -/
structure Tab (ws : List Win) (n : Nat) (t0 : Int) (T : Nat → Option (Int × Nat)) (m : Nat) : Prop where
  zero : ∃ z, T 0 = some (t0, z)
  at_ : ∀ d, 0 < d → d < m → T d = scan ws T d n
theorem Tab.le {ws : List Win} {n : Nat} {t0 : Int} {T : Nat → Option (Int × Nat)} (h : Tab ws n t0 T (2 ^ n)) : ∀ (k : Nat) (s : List Nat) (d : Nat) (e : Int), s.length = k → d < 2 ^ n → Ord d s → endT ws s t0 = some e → ∃ y, T d = some y ∧ y.1 ≤ e
  | 0, s, d, e, hk, hd, o, he => by
    obtain rfl := List.eq_nil_of_length_eq_zero hk
    have : d = 0 := no_bits fun j => by
      cases hb : d.testBit j with
      | false => rfl
      | true => exact absurd ((o.mem j).mpr hb) (by simp)
    subst this
    cases he
    obtain ⟨z, hz⟩ := h.zero
    exact ⟨_, hz, Int.le_refl _⟩
  | k + 1, s, d, e, hk, hd, o, he => by
    obtain ⟨s', j, rfl⟩ : ∃ s' j, s = s' ++ [j] := by
      rcases List.eq_nil_or_concat s with h | ⟨a, b, h⟩
      · rw [h] at hk; cases hk
      · exact ⟨a, b, by rw [h]; simp⟩
    obtain ⟨hj, o'⟩ := o.snoc
    have hl : s'.length = k := by rw [List.length_append] at hk; simpa using hk
    rw [endT_app] at he
    cases h1 : endT ws s' t0 with
    | none => rw [h1] at he; cases he
    | some e1 =>
      rw [h1] at he
      have he : endT ws [j] e1 = some e := he
      unfold endT at he
      split at he
      · cases he
      · rename_i c
        have he : some (stW e1 (ws.getD j W0) + (ws.getD j W0).2.2.1) = some e := he
        cases he
        have lt := bit_lt hj
        obtain ⟨y, hy, ly⟩ := h.le k s' (d ^^^ 2 ^ j) e1 hl (by omega) o' h1
        have m := stW_le ly (ws.getD j W0)
        have dp : 0 < d := by omega
        obtain ⟨z, hz, lz⟩ := scan_le (ws := ws) (T := T) (n := n) (bit_small hd hj) hj hy (by omega)
        exact ⟨z, by rw [h.at_ d dp hd]; exact hz, by omega⟩
/-! ### all sequences -/
def ins (s : List Nat) (k at_ : Nat) : List Nat := s.take at_ ++ [k] ++ s.drop at_
def seqs : Nat → List (List Nat)
  | 0 => [[]]
  | k + 1 => (seqs k).flatMap fun s => (List.range (k + 1)).map (ins s k)
structure Perm (n : Nat) (s : List Nat) : Prop where
  nd : s.Nodup
  mem : ∀ j, j ∈ s ↔ j < n
theorem mem_ins {s : List Nat} {k a j : Nat} : j ∈ ins s k a ↔ j ∈ s ∨ j = k := by
  unfold ins
  have e : s = s.take a ++ s.drop a := (List.take_append_drop a s).symm
  rw [List.mem_append, List.mem_append, List.mem_singleton]
  constructor
  · rintro ((h | h) | h)
    · exact .inl (List.mem_of_mem_take h)
    · exact .inr h
    · exact .inl (List.mem_of_mem_drop h)
  · rintro (h | h)
    · rw [e] at h
      rcases List.mem_append.mp h with h | h
      · exact .inl (.inl h)
      · exact .inr h
    · exact .inl (.inr h)
theorem Perm.ins {s : List Nat} {k a : Nat} (h : Perm k s) : Perm (k + 1) (ins s k a) := by
  refine ⟨?_, fun j => by rw [mem_ins, h.mem]; omega⟩
  have nk : k ∉ s := fun z => by have := (h.mem k).mp z; omega
  have nd := h.nd
  rw [← List.take_append_drop a s] at nd
  have nd := List.nodup_append.mp nd
  unfold M63.ins
  refine List.nodup_append.mpr ⟨List.nodup_append.mpr ⟨nd.1, by simp, fun x hx y hy => ?_⟩, nd.2.1, fun x hx y hy => ?_⟩
  · rw [List.mem_singleton.mp hy]
    exact fun z => nk (List.mem_of_mem_take (z ▸ hx))
  · rcases List.mem_append.mp hx with h | h
    · exact nd.2.2 x h y hy
    · rw [List.mem_singleton.mp h]
      exact fun z => nk (List.mem_of_mem_drop (z ▸ hy))
theorem seqs_perm : ∀ {n : Nat} {s : List Nat}, s ∈ seqs n → Perm n s
  | 0, s, h => by
    rw [List.mem_singleton.mp h]
    exact ⟨by simp, fun j => by simp⟩
  | k + 1, s, h => by
    obtain ⟨s', h1, h2⟩ := List.mem_flatMap.mp h
    obtain ⟨a, _, rfl⟩ := List.mem_map.mp h2
    exact (seqs_perm h1).ins
theorem Perm.len : ∀ {n : Nat} {s : List Nat}, Perm n s → s.length = n
  | n, s, h => by
    have e : s.Perm (List.range n) := (List.perm_ext_iff_of_nodup h.nd List.nodup_range).mpr fun j => by rw [h.mem, List.mem_range]
    rw [e.length_eq, List.length_range]
theorem perm_seqs : ∀ {n : Nat} {s : List Nat}, Perm n s → s ∈ seqs n
  | 0, s, h => by
    have := h.len
    rw [List.eq_nil_of_length_eq_zero this]
    exact List.mem_cons_self ..
  | k + 1, s, h => by
    have hk : k ∈ s := (h.mem k).mpr (by omega)
    obtain ⟨a, b, rfl⟩ := List.append_of_mem hk
    have nd := List.nodup_append.mp h.nd
    have nb := List.nodup_cons.mp nd.2.1
    have na : k ∉ a := fun z => nd.2.2 k z k (List.mem_cons_self ..) rfl
    have p : Perm k (a ++ b) := by
      refine ⟨List.nodup_append.mpr ⟨nd.1, nb.2, fun x hx y hy => nd.2.2 x hx y (List.mem_cons_of_mem _ hy)⟩, fun j => ?_⟩
      have m := h.mem j
      rw [List.mem_append, List.mem_cons] at m
      rw [List.mem_append]
      constructor
      · intro z
        have l : j < k + 1 := m.mp (z.elim .inl fun y => .inr (.inr y))
        have ne : j ≠ k := fun w => by
          subst w
          exact z.elim na nb.1
        omega
      · intro z
        rcases m.mpr (by omega) with y | y | y
        · exact .inl y
        · omega
        · exact .inr y
    have l := h.len
    rw [List.length_append, List.length_cons] at l
    refine List.mem_flatMap.mpr ⟨a ++ b, perm_seqs p, List.mem_map.mpr ⟨a.length, List.mem_range.mpr (by omega), ?_⟩⟩
    unfold M63.ins
    rw [List.take_left, List.drop_left, List.append_assoc]; rfl
theorem Perm.ord {n : Nat} {s : List Nat} (h : Perm n s) : Ord (2 ^ n - 1) s := ⟨h.nd, fun j => by rw [h.mem, Nat.testBit_two_pow_sub_one]; simp⟩
theorem Ord.perm {n : Nat} {s : List Nat} (h : Ord (2 ^ n - 1) s) : Perm n s := ⟨h.nd, fun j => by rw [h.mem, Nat.testBit_two_pow_sub_one]; simp⟩
end M63

namespace M63
/-! ### what starts are like -/
def LenOk (ws : List Win) : Prop := ∀ w ∈ ws, 1 ≤ w.2.2.1
theorem getW {ws : List Win} {j : Nat} (h : j < ws.length) : ws.getD j W0 ∈ ws := by
  rw [List.getD_eq_getElem?_getD, List.getElem?_eq_getElem h]
  exact List.getElem_mem h
theorem getD_set_ne {f : List Int} {i j : Nat} {x : Int} (h : i ≠ j) : (f.set i x).getD j 0 = f.getD j 0 := by
  rw [List.getD_eq_getElem?_getD, List.getD_eq_getElem?_getD, List.getElem?_set_ne h]
theorem getD_set_eq {f : List Int} {i : Nat} {x : Int} (h : i < f.length) : (f.set i x).getD i 0 = x := by
  rw [List.getD_eq_getElem?_getD, List.getElem?_set_self h]; rfl
structure GoOk (ws : List Win) (s : List Nat) (f : List Int) (t : Int) (f' : List Int) (t' : Int) : Prop where
  len : f'.length = f.length
  out : ∀ j, j ∉ s → f'.getD j 0 = f.getD j 0
  up : t ≤ t'
  win : ∀ j ∈ s, (ws.getD j W0).1 ≤ f'.getD j 0 ∧ f'.getD j 0 ≤ (ws.getD j W0).2.1 ∧ t ≤ f'.getD j 0 ∧ f'.getD j 0 + (ws.getD j W0).2.2.1 ≤ t'
  apart : ∀ i ∈ s, ∀ j ∈ s, i ≠ j → f'.getD i 0 + (ws.getD i W0).2.2.1 ≤ f'.getD j 0 ∨ f'.getD j 0 + (ws.getD j W0).2.2.1 ≤ f'.getD i 0
  last : s ≠ [] → ∃ j ∈ s, f'.getD j 0 + (ws.getD j W0).2.2.1 = t'
theorem goT_ok {ws : List Win} (lo : LenOk ws) : ∀ {s : List Nat} {f : List Int} {t : Int} {f' : List Int} {t' : Int}, s.Nodup → (∀ j ∈ s, j < ws.length) → f.length = ws.length → goT ws s f t = some (f', t') → GoOk ws s f t f' t'
  | [], f, t, f', t', _, _, _, h => by
    cases h
    exact ⟨rfl, fun _ _ => rfl, Int.le_refl _, fun j h => by simp at h, fun i h => by simp at h, fun h => absurd rfl h⟩
  | j :: r, f, t, f', t', nd, hl, fl, h => by
    unfold goT at h
    split at h
    · cases h
    rename_i c
    have nd := List.nodup_cons.mp nd
    have hj := hl j (List.mem_cons_self ..)
    have ln := lo _ (getW hj)
    have ge := stW_ge t (ws.getD j W0)
    generalize hs : stW t (ws.getD j W0) = st at *
    have g := goT_ok lo nd.2 (fun i hi => hl i (List.mem_cons_of_mem _ hi)) (by rw [List.length_set]; exact fl) h
    have fj : f'.getD j 0 = st := by rw [g.out j nd.1, getD_set_eq (by omega)]
    have up := g.up
    refine ⟨by rw [g.len, List.length_set], fun i hi => ?_, by omega, fun i hi => ?_, fun i hi k hk ne => ?_, fun _ => ?_⟩
    · have h1 : i ∉ r := fun z => hi (List.mem_cons_of_mem _ z)
      have h2 : j ≠ i := fun z => hi (z ▸ List.mem_cons_self ..)
      rw [g.out i h1, getD_set_ne h2]
    · rcases List.mem_cons.mp hi with rfl | hi
      · rw [fj]
        exact ⟨ge.2, by omega, ge.1, up⟩
      · obtain ⟨a, b, c, d⟩ := g.win i hi
        exact ⟨a, b, by omega, d⟩
    · rcases List.mem_cons.mp hi with ei | hi2
      · rcases List.mem_cons.mp hk with ek | hk2
        · exact absurd (ei.trans ek.symm) ne
        · have := g.win k hk2
          rw [ei, fj]
          exact .inl (by omega)
      · rcases List.mem_cons.mp hk with ek | hk2
        · have := g.win i hi2
          rw [ek, fj]
          exact .inr (by omega)
        · exact g.apart i hi2 k hk2 ne
    · by_cases e : r = []
      · subst e
        cases h
        exact ⟨j, List.mem_cons_self .., by rw [getD_set_eq (by omega)]⟩
      · obtain ⟨i, hi, e⟩ := g.last e
        exact ⟨i, List.mem_cons_of_mem _ hi, e⟩
/-- the greatest end -/
def lastOf (ws : List Win) (f : List Int) : List Int := (List.range ws.length).map fun j => f.getD j 0 + (ws.getD j W0).2.2.1
theorem last_max {ws : List Win} (lo : LenOk ws) {s : List Nat} {f : List Int} {t : Int} {f' : List Int} {t' : Int} (p : Perm ws.length s) (n1 : 1 ≤ ws.length) (fl : f.length = ws.length) (h : goT ws s f t = some (f', t')) : t' ∈ lastOf ws f' ∧ ∀ y ∈ lastOf ws f', y ≤ t' := by
  have g := goT_ok lo p.nd (fun j hj => (p.mem j).mp hj) fl h
  constructor
  · have ne : s ≠ [] := fun z => by have := p.len; rw [z] at this; simp at this; omega
    obtain ⟨j, hj, e⟩ := g.last ne
    exact List.mem_map.mpr ⟨j, List.mem_range.mpr ((p.mem j).mp hj), e⟩
  · intro y hy
    obtain ⟨j, hj, rfl⟩ := List.mem_map.mp hy
    exact (g.win j ((p.mem j).mpr (List.mem_range.mp hj))).2.2.2
/-! ### no late window: a closed formula -/
def endF (ws : List Win) : List Nat → Int → Int
  | [], t => t
  | j :: r, t => endF ws r (stW t (ws.getD j W0) + (ws.getD j W0).2.2.1)
def sumL (l : List Int) : Int := l.foldr (· + ·) 0
def lens (ws : List Win) (s : List Nat) : Int := sumL (s.map fun j => (ws.getD j W0).2.2.1)
theorem lens_cons (ws : List Win) (j : Nat) (s : List Nat) : lens ws (j :: s) = (ws.getD j W0).2.2.1 + lens ws s := rfl
theorem lens_nn {ws : List Win} (lo : LenOk ws) : ∀ {s : List Nat}, (∀ i ∈ s, i < ws.length) → 0 ≤ lens ws s
  | [], _ => Int.le_refl _
  | a :: r, h => by
    rw [lens_cons]
    have := lo _ (getW (h a (List.mem_cons_self ..)))
    have := lens_nn lo (s := r) fun i hi => h i (List.mem_cons_of_mem _ hi)
    omega
theorem endF_app (ws : List Win) : ∀ (s r : List Nat) (t : Int), endF ws (s ++ r) t = endF ws r (endF ws s t)
  | [], r, t => rfl
  | j :: s, r, t => endF_app ws s r _
/-- all lows at most B, and B and all lengths within each window -/
theorem endT_free {ws : List Win} {B : Int} (lo : LenOk ws) : ∀ {s : List Nat} {t : Int}, (∀ j ∈ s, j < ws.length) → (∀ j ∈ s, (ws.getD j W0).1 ≤ B) → t ≤ B → (∀ j ∈ s, B + lens ws s ≤ (ws.getD j W0).2.1) → endT ws s t = some (endF ws s t)
  | [], t, _, _, _, _ => rfl
  | j :: r, t, hl, hB, tB, hh => by
    unfold endT endF
    have h1 := hB j (List.mem_cons_self ..)
    have h2 := hh j (List.mem_cons_self ..)
    have l1 := lo _ (getW (hl j (List.mem_cons_self ..)))
    rw [lens_cons] at h2
    have ln := lens_nn lo (s := r) fun i hi => hl i (List.mem_cons_of_mem _ hi)
    have st : stW t (ws.getD j W0) ≤ B := by unfold stW; split <;> omega
    rw [if_neg (by omega)]
    have e : endT ws r (stW t (ws.getD j W0) + (ws.getD j W0).2.2.1) = some (endF ws r (stW t (ws.getD j W0) + (ws.getD j W0).2.2.1)) := by
      refine endT_free (B := B + (ws.getD j W0).2.2.1) lo (fun i hi => hl i (List.mem_cons_of_mem _ hi)) (fun i hi => ?_) (by omega) (fun i hi => ?_)
      · have := hB i (List.mem_cons_of_mem _ hi); omega
      · have := hh i (List.mem_cons_of_mem _ hi)
        rw [lens_cons] at this; omega
    exact e
/-- those that do not begin before L -/
def late (ws : List Win) (L : Int) (s : List Nat) : List Nat := s.filter fun j => decide (L ≤ (ws.getD j W0).1)
theorem late_pos {ws : List Win} {L : Int} {j : Nat} {r : List Nat} (h : L ≤ (ws.getD j W0).1) : late ws L (j :: r) = j :: late ws L r := List.filter_cons_of_pos (p := fun j => decide (L ≤ (ws.getD j W0).1)) (decide_eq_true h)
theorem late_neg {ws : List Win} {L : Int} {j : Nat} {r : List Nat} (h : ¬ L ≤ (ws.getD j W0).1) : late ws L (j :: r) = late ws L r := List.filter_cons_of_neg (p := fun j => decide (L ≤ (ws.getD j W0).1)) (by rw [decide_eq_false h]; simp)
theorem endF_ge {ws : List Win} {L : Int} (lo : LenOk ws) : ∀ {s : List Nat} {t : Int}, (∀ j ∈ s, j < ws.length) → (L ≤ t ∨ late ws L s ≠ []) → (if L ≤ t then t else L) + lens ws (late ws L s) ≤ endF ws s t
  | [], t, _, h => by
    rcases h with h | h
    · rw [if_pos h]
      show t + 0 ≤ t; omega
    · exact absurd rfl h
  | j :: r, t, hl, h => by
    have l1 := lo _ (getW (hl j (List.mem_cons_self ..)))
    have hr := fun i hi => hl i (List.mem_cons_of_mem j hi)
    have ge := stW_ge t (ws.getD j W0)
    show _ ≤ endF ws r (stW t (ws.getD j W0) + (ws.getD j W0).2.2.1)
    by_cases c : L ≤ (ws.getD j W0).1
    · have e : late ws L (j :: r) = j :: late ws L r := late_pos c
      have ih := endF_ge (L := L) lo (t := stW t (ws.getD j W0) + (ws.getD j W0).2.2.1) hr (.inl (by omega))
      rw [if_pos (by omega)] at ih
      rw [e, lens_cons]
      split <;> omega
    · have e : late ws L (j :: r) = late ws L r := late_neg c
      rw [e] at h ⊢
      have ih := endF_ge (L := L) lo (t := stW t (ws.getD j W0) + (ws.getD j W0).2.2.1) hr (h.elim (fun h => .inl (by omega)) .inr)
      split at ih <;> split <;> omega
/-- sorted by their lows -/
def Sorted (ws : List Win) (s : List Nat) : Prop := s.Pairwise fun i j => (ws.getD i W0).1 ≤ (ws.getD j W0).1
theorem late_app (ws : List Win) (L : Int) (s : List Nat) (j : Nat) (h : L ≤ (ws.getD j W0).1) : late ws L (s ++ [j]) = late ws L s ++ [j] := by
  have e : late ws L [j] = [j] := late_pos h
  unfold late at e ⊢
  rw [List.filter_append, e]
theorem lens_app (ws : List Win) : ∀ (s r : List Nat), lens ws (s ++ r) = lens ws s + lens ws r
  | [], r => (Int.zero_add _).symm
  | j :: s, r => by rw [List.cons_append, lens_cons, lens_cons, lens_app ws s r, Int.add_assoc]
/-- sorted: the end is that of one of them and those that do not begin before it -/
theorem sorted_end {ws : List Win} {t0 : Int} (lo : LenOk ws) : ∀ (k : Nat) {s : List Nat}, s.length = k → (∀ j ∈ s, j < ws.length) → Sorted ws s → (∀ j ∈ s, t0 ≤ (ws.getD j W0).1) → s ≠ [] → ∃ j ∈ s, endF ws s t0 = (ws.getD j W0).1 + lens ws (late ws (ws.getD j W0).1 s)
  | 0, s, hk, _, _, _, ne => absurd (List.eq_nil_of_length_eq_zero hk) ne
  | k + 1, s, hk, hb, so, h0, ne => by
    obtain ⟨s', j, rfl⟩ : ∃ s' j, s = s' ++ [j] := by
      rcases List.eq_nil_or_concat s with h | ⟨a, b, h⟩
      · exact absurd h ne
      · exact ⟨a, b, by rw [h]; simp⟩
    have hl : s'.length = k := by rw [List.length_append] at hk; simpa using hk
    have so2 := List.pairwise_append.mp so
    have lj : ∀ i ∈ s', (ws.getD i W0).1 ≤ (ws.getD j W0).1 := fun i hi => so2.2.2 i hi j (List.mem_cons_self ..)
    rw [endF_app]
    show ∃ i ∈ s' ++ [j], stW (endF ws s' t0) (ws.getD j W0) + (ws.getD j W0).2.2.1 = _
    by_cases e : s' = []
    · subst e
      refine ⟨j, List.mem_cons_self .., ?_⟩
      have h1 := h0 j (List.mem_cons_self ..)
      have e2 : late ws (ws.getD j W0).1 [j] = [j] := late_pos (Int.le_refl _)
      show stW t0 (ws.getD j W0) + (ws.getD j W0).2.2.1 = _ + lens ws (late ws (ws.getD j W0).1 [j])
      rw [e2, lens_cons]
      show _ = (ws.getD j W0).1 + ((ws.getD j W0).2.2.1 + 0)
      unfold stW
      split <;> omega
    · obtain ⟨i, hi, ei⟩ := sorted_end lo k hl (fun i hi => hb i (List.mem_append_left _ hi)) so2.1 (fun i hi => h0 i (List.mem_append_left _ hi)) e
      by_cases c : endF ws s' t0 < (ws.getD j W0).1
      · refine ⟨j, List.mem_append_right _ (List.mem_cons_self ..), ?_⟩
        have st : stW (endF ws s' t0) (ws.getD j W0) = (ws.getD j W0).1 := by unfold stW; rw [if_pos c]
        have nl : late ws (ws.getD j W0).1 s' = [] := by
          refine Classical.byContradiction fun z => ?_
          have g := endF_ge (L := (ws.getD j W0).1) lo (s := s') (t := t0) (fun i hi => hb i (List.mem_append_left _ hi)) (.inr z)
          have nn := lens_nn lo (s := late ws (ws.getD j W0).1 s') fun i hi => hb i (List.mem_append_left _ (List.mem_filter.mp hi).1)
          split at g <;> omega
        rw [st, late_app _ _ _ _ (Int.le_refl _), nl]
        show _ = _ + lens ws [j]
        rw [lens_cons]
        show _ = _ + (_ + 0)
        omega
      · refine ⟨i, List.mem_append_left _ hi, ?_⟩
        have st : stW (endF ws s' t0) (ws.getD j W0) = endF ws s' t0 := by unfold stW; rw [if_neg c]
        rw [st, late_app _ _ _ _ (lj i hi), lens_app, ei, lens_cons]
        show _ = _ + (_ + (_ + 0))
        omega
end M63

namespace M63
theorem Ord.app {d j : Nat} {s : List Nat} (hj : d.testBit j = true) (o : Ord (d ^^^ 2 ^ j) s) : Ord d (s ++ [j]) := by
  have nj : j ∉ s := fun z => by
    have := (o.mem j).mp z
    rw [bit_off hj] at this
    simp at this
  refine ⟨List.nodup_append.mpr ⟨o.nd, by simp, fun x hx y hy => ?_⟩, fun i => ?_⟩
  · rw [List.mem_singleton.mp hy]
    exact fun z => nj (z ▸ hx)
  · rw [List.mem_append, List.mem_singleton, o.mem, bit_off hj, Bool.and_eq_true, decide_eq_true_iff]
    constructor
    · rintro (h | h)
      · exact h.2
      · rw [h]; exact hj
    · intro h
      by_cases e : i = j
      · exact .inr e
      · exact .inl ⟨e, h⟩
theorem Tab.ex {ws : List Win} {n : Nat} {t0 : Int} {T : Nat → Option (Int × Nat)} (h : Tab ws n t0 T (2 ^ n)) : ∀ (k d : Nat), d ≤ k → d < 2 ^ n → ∀ y, T d = some y → ∃ s, Ord d s ∧ endT ws s t0 = some y.1
  | k, 0, _, _, y, hy => by
    obtain ⟨z, hz⟩ := h.zero
    rw [hz] at hy
    cases hy
    exact ⟨[], ⟨by simp, fun j => by simp⟩, rfl⟩
  | 0, d + 1, hk, _, y, hy => by omega
  | k + 1, d + 1, hk, hd, y, hy => by
    obtain ⟨e, j⟩ := y
    rw [h.at_ (d + 1) (by omega) hd] at hy
    obtain ⟨_, hj, x, hx, hs, rfl⟩ := scan_some hy
    have lt := bit_lt hj
    obtain ⟨s, o, es⟩ := h.ex k ((d + 1) ^^^ 2 ^ j) (by omega) (by omega) x hx
    refine ⟨s ++ [j], o.app hj, ?_⟩
    rw [endT_app, es]
    show endT ws [j] x.1 = _
    unfold endT
    rw [if_neg (by omega)]; rfl
/-! ### the formula -/
theorem lens_perm {ws : List Win} {s r : List Nat} (p : s.Perm r) : lens ws s = lens ws r := by
  induction p with
  | nil => rfl
  | cons x _ ih => rw [lens_cons, lens_cons, ih]
  | swap x y l => rw [lens_cons, lens_cons, lens_cons, lens_cons]; omega
  | trans _ _ a b => exact a.trans b
theorem Perm.range {n : Nat} {s : List Nat} (h : Perm n s) : s.Perm (List.range n) := (List.perm_ext_iff_of_nodup h.nd List.nodup_range).mpr fun j => by rw [h.mem, List.mem_range]
theorem range_get (ws : List Win) : (List.range ws.length).map (ws.getD · W0) = ws := by
  refine List.ext_getElem (by rw [List.length_map, List.length_range]) fun i h1 h2 => ?_
  rw [List.getElem_map, List.getElem_range, List.getD_eq_getElem?_getD, List.getElem?_eq_getElem h2]; rfl
def dueAt (ws : List Win) (L : Int) : Int := L + sumL ((ws.filter fun w => decide (L ≤ w.1)).map (·.2.2.1))
theorem late_due {ws : List Win} {s : List Nat} (p : Perm ws.length s) (L : Int) : L + lens ws (late ws L s) = dueAt ws L := by
  unfold dueAt
  congr 1
  have e1 : lens ws (late ws L s) = lens ws (late ws L (List.range ws.length)) := lens_perm (p.range.filter _)
  rw [e1]
  unfold lens late
  congr 1
  have e2 : ws.filter (fun w => decide (L ≤ w.1)) = ((List.range ws.length).filter fun j => decide (L ≤ (ws.getD j W0).1)).map (ws.getD · W0) := by
    conv => lhs; rw [← range_get ws]
    rw [List.filter_map]; rfl
  rw [e2, List.map_map]; rfl
/-- a sorted sequence of all -/
theorem sorted_ex (ws : List Win) : ∀ k : Nat, ∃ s, Perm k s ∧ Sorted ws s
  | 0 => ⟨[], ⟨by simp, fun j => by simp⟩, List.Pairwise.nil⟩
  | k + 1 => by
    obtain ⟨s, p, so⟩ := sorted_ex ws k
    have split : ∀ s : List Nat, Sorted ws s → ∃ a b, s = a ++ b ∧ (∀ i ∈ a, (ws.getD i W0).1 ≤ (ws.getD k W0).1) ∧ (∀ i ∈ b, (ws.getD k W0).1 ≤ (ws.getD i W0).1) := by
      intro s
      induction s with
      | nil => intro _; exact ⟨[], [], rfl, fun i h => by simp at h, fun i h => by simp at h⟩
      | cons x s ih =>
        intro so
        have so := List.pairwise_cons.mp so
        by_cases c : (ws.getD x W0).1 ≤ (ws.getD k W0).1
        · obtain ⟨a, b, rfl, ha, hb⟩ := ih so.2
          refine ⟨x :: a, b, rfl, fun i hi => ?_, hb⟩
          rcases List.mem_cons.mp hi with rfl | hi
          · exact c
          · exact ha i hi
        · refine ⟨[], x :: s, rfl, fun i h => by simp at h, fun i hi => ?_⟩
          rcases List.mem_cons.mp hi with rfl | hi
          · omega
          · have := so.1 i hi; omega
    obtain ⟨a, b, rfl, ha, hb⟩ := split s so
    have so2 := List.pairwise_append.mp so
    have e : ins (a ++ b) k a.length = a ++ [k] ++ b := by unfold ins; rw [List.take_left, List.drop_left]
    refine ⟨a ++ [k] ++ b, e ▸ p.ins, ?_⟩
    refine List.pairwise_append.mpr ⟨List.pairwise_append.mpr ⟨so2.1, List.pairwise_singleton _ _, fun x hx y hy => ?_⟩, so2.2.1, fun x hx y hy => ?_⟩
    · rw [List.mem_singleton.mp hy]; exact ha x hx
    · rcases List.mem_append.mp hx with h | h
      · exact so2.2.2 x h y hy
      · rw [List.mem_singleton.mp h]; exact hb y hy
theorem free_due {ws : List Win} {t0 B : Int} {T : Nat → Option (Int × Nat)} (h : Tab ws ws.length t0 T (2 ^ ws.length)) (lo : LenOk ws) (n1 : 1 ≤ ws.length) (h0 : ∀ w ∈ ws, t0 ≤ w.1) (hB : ∀ w ∈ ws, w.1 ≤ B) (hh : ∀ w ∈ ws, B + sumL (ws.map (·.2.2.1)) ≤ w.2.1) :
    ∃ y, T (2 ^ ws.length - 1) = some y ∧ (∃ w ∈ ws, y.1 = dueAt ws w.1) ∧ ∀ w ∈ ws, dueAt ws w.1 ≤ y.1 := by
  have lt : 2 ^ ws.length - 1 < 2 ^ ws.length := by have := Nat.pow_pos (n := ws.length) (show 0 < 2 by decide); omega
  have all : ∀ s, Perm ws.length s → endT ws s t0 = some (endF ws s t0) := fun s p => by
    have hm : ∀ j ∈ s, j < ws.length := fun j hj => (p.mem j).mp hj
    have ne : ∃ w, w ∈ ws := ⟨_, getW (show 0 < ws.length by omega)⟩
    obtain ⟨w1, hw1⟩ := ne
    have tot : lens ws s = sumL (ws.map (·.2.2.1)) := by
      rw [lens_perm p.range]
      unfold lens
      conv => rhs; rw [← range_get ws]
      rw [List.map_map]; rfl
    refine endT_free (B := B) lo hm (fun j hj => hB _ (getW (hm j hj))) (Int.le_trans (h0 w1 hw1) (hB w1 hw1)) fun j hj => ?_
    rw [tot]; exact hh _ (getW (hm j hj))
  obtain ⟨s, p, so⟩ := sorted_ex ws ws.length
  have ne : s ≠ [] := fun z => by have := p.len; rw [z] at this; simp at this; omega
  obtain ⟨j, hj, ej⟩ := sorted_end lo s.length rfl (fun j hj => (p.mem j).mp hj) so (fun j hj => h0 _ (getW ((p.mem j).mp hj))) ne
  have hjl := (p.mem j).mp hj
  obtain ⟨y, hy, ly⟩ := h.le s.length s _ _ rfl lt p.ord (all s p)
  rw [ej, late_due p] at ly
  obtain ⟨r, o, er⟩ := h.ex _ _ (Nat.le_refl _) lt y hy
  have pr := o.perm
  rw [all r pr] at er
  have er : endF ws r t0 = y.1 := Option.some.inj er
  have ge : ∀ w ∈ ws, dueAt ws w.1 ≤ y.1 := fun w hw => by
    obtain ⟨i, hi, e⟩ := List.mem_iff_getElem.mp hw
    have gi : ws.getD i W0 = w := by rw [List.getD_eq_getElem?_getD, List.getElem?_eq_getElem hi, e]; rfl
    have mi : i ∈ late ws w.1 r := List.mem_filter.mpr ⟨(pr.mem i).mpr hi, decide_eq_true (by rw [gi]; exact Int.le_refl _)⟩
    have g := endF_ge (L := w.1) lo (s := r) (t := t0) (fun j hj => (pr.mem j).mp hj) (.inr fun z => by rw [z] at mi; simp at mi)
    have w0 := h0 w hw
    have d := late_due pr w.1
    rw [er] at g
    split at g <;> omega
  exact ⟨y, hy, ⟨_, getW hjl, Int.le_antisymm ly (ge _ (getW hjl))⟩, ge⟩
end M63

namespace M63
open PySem PySem.Spec PyProof.Rows L2 SX Own Gd
open C8 (Cal pe_c pe_gc pe_mk Mak pss_cut)
/-! ### windows -/
theorem LV.at_new {H : Hp} {v : V} {a : List Int} {D : Addr} {xs : List V} (h : LV H v a) (hD : H D = some (.lst xs)) (o' : HO) : LV (upd H D o') v a := by
  obtain ⟨p, e1, f⟩ := h
  exact ⟨p, e1, by rw [upd_ne (Own.ne_of f hD (fun z => by unfold tI at z; cases z))]; exact f⟩
theorem LVs.at_new {H : Hp} {D : Addr} {xs : List V} (hD : H D = some (.lst xs)) (o' : HO) : ∀ {vs : List V} {as : List (List Int)}, LVs H vs as → LVs (upd H D o') vs as
  | _, _, .nil => .nil
  | _, _, .cons h t => .cons (h.at_new hD o') (t.at_new hD o')
theorem LVs.app {H : Hp} {vs us : List V} {qs rs : List (List Int)} (h : LVs H vs qs) (h2 : LVs H us rs) : LVs H (vs ++ us) (qs ++ rs) := by
  induction h with
  | nil => exact h2
  | cons a _ ih => exact .cons a ih
def wRow (w : Win) : List Int := [w.1, w.2.1, w.2.2.1, w.2.2.2]
/-- the window of a job in a box -/
def winOf (box : List (List Int)) (j : List Int) : Win := ((box.getD (placeOf j).toNat []).getD 0 0, (box.getD (placeOf j).toNat []).getD 1 0, j.getD 1 0, 1)
structure BoxOk (n : Nat) (box : List (List Int)) : Prop where
  len : box.length = n
  two : ∀ r ∈ box, r.length = 2
theorem two_of {j : List Int} (h : j.length = 2) : ∃ a b, j = [a, b] := by
  match j, h with
  | [a, b], _ => exact ⟨a, b, rfl⟩
theorem lk_u (a b c : V) : List.lookup ("unknowns" : Str) ([("unknowns", a), ("wishes", b), ("goal", c)] : List (Str × V)) = some a := by rfl
theorem lk_w (a b c : V) : List.lookup ("wishes" : Str) ([("unknowns", a), ("wishes", b), ("goal", c)] : List (Str × V)) = some b := by rfl
theorem lk_g (a b c : V) : List.lookup ("goal" : Str) ([("unknowns", a), ("wishes", b), ("goal", c)] : List (Str × V)) = some c := by rfl
theorem TaskV.same {C : Addr} {H H' : Hp} {v : V} {ul : List Unk} {wl : List Wish} {goal : List Int} (h : TaskV C H v ul wl goal) (s : Same H H') : TaskV C H' v ul wl goal := by
  obtain ⟨x, dx, pu, pw, pg, us, ws, e, h1, h2, h3, h4, h5, h6⟩ := h
  exact ⟨x, dx, pu, pw, pg, us, ws, e, s _ _ h1, s _ _ h2, h3.same s, s _ _ h4, h5.same s, s _ _ h6⟩
/-- what is known of the class -/
structure CC (K : PySem.W.Frag) (C : Addr) : Prop where
  cl : Cls K C
  nu : NoAttr K C "unknowns"
  nw : NoAttr K C "wishes"
  ng : NoAttr K C "goal"
section
variable {P : Program} {w : World} {K : PySem.W.Frag} {mg : Str → Option Value} {base : Heap} {aW aT : Addr} {es : Array DictEntry} {nn : Nat}
abbrev s_jobs_of : Stmt := topS 7
abbrev n_jobs_of : List Str := ["wish", "place", "length"]
theorem sc_jobs_of : FnScope n_jobs_of ["wish"] (defScope s_jobs_of) := ⟨rfl, rfl, rfl, by decide +kernel, rfl, by decide +kernel, by decide +kernel⟩
def spJobsOf : Sp := fun vs H Q _ => ∃ (v : V) (js : List (List Int)), vs = [v] ∧ WV H v (.bench js) ∧ (∀ j ∈ js, j.length = 2) ∧ js.length ≤ 100 ∧ ∀ p us H', Same H H' → H' p = some (.tup us) → LVs H' us (js.map (· ++ [1])) → Q (.ref p) H'
theorem ok_jobs_of {f : Addr} {fd : FuncData} (F : Fun K "jobs_of" "jobs_of" s_jobs_of f fd) (T : Txt K mg w aW aT es nn) : FnOk P w K mg base CX0 1 f fd ["wish"] spJobsOf := by
  refine F.ok sc_jobs_of (fun vs H Q E h => ?_) (fun cdv A outer s0 H vs Q E hr h => ?_)
  · obtain ⟨v, js, rfl, _⟩ := h
    rfl
  · obtain ⟨v, js, rfl, ⟨p, u, rfl, hp, ⟨pj, us, rfl, hpj, lv⟩⟩, l2, l100, q⟩ := h
    refine ⟨_, (pss_cons (ps_if (pt_cmpR op_eq (pe_ix ix_tup (pv 0) pe_int (fun _ _ => rfl)) pe_str (nomark _)) (pss_one (ps_ret (pe_callTy call_tuple_of (by rfl) T.b_tuple (by decide +kernel) (pa_cons (pe_lc (own := [("place", 1), ("length", 2)]) (g := gTup K 2 (gCons (gName 1) (gCons (gName 2) gNil))) rfl sc_jobs_of.nd (pi_tup (pe_ix ix_tup (pv 0) pe_int (fun _ _ => rfl))) (blkOk_by (N := n_jobs_of) (sc := defScope s_jobs_of) (by decide +kernel)) (fun _ _ _ _ _ => (pg_tup rfl (pgs_cons (pg_name (i := 1) sc_jobs_of.nd rfl (.inl rfl)) (pgs_cons (pg_name (i := 2) sc_jobs_of.nd rfl (.inl rfl)) pgs_nil)))) (fun _ _ _ _ _ => pts_nil) (fun _ _ _ _ _ => (pe_tup (pa_cons (pv 1) (pa_cons (pv 2) (pa_cons pe_int pa_nil)))))) pa_nil)))) pss_nil)
      (pss_one (ps_ret (pe_ix ix_tup (pv 0) pe_int (fun _ _ => rfl))))), ?_⟩
    refine ⟨_, rfl, p, _, 0, _, rfl, rfl, sq_tup hp, rfl, rfl, _, rfl, iteT ?_⟩
    refine ⟨_, rfl, p, _, 1, _, rfl, rfl, sq_tup hp, rfl, pj, rfl, ⟨_, sq_tup hpj⟩, fun D nD => ?_⟩
    refine lc_tup (K := K) (a := pj) (xs := us) (fun i H' => ∃ vs, H' D = some (.lst vs) ∧ LVs H' vs ((js.take i).map (· ++ [1])) ∧ Same H H') ⟨[], upd_same, .nil, same_upd nD⟩ (fun i H' _ h => by obtain ⟨_, _, _, sm⟩ := h; exact sq_tup (sm _ _ hpj)) ?_ ?_
    · rintro i x H2 hx ⟨vs, hD, fv, sm⟩
      obtain ⟨j, hj, pj', rfl, hpj'⟩ := lv.at_ hx
      have li : i < js.length := (List.getElem?_eq_some_iff.mp hj).1
      obtain ⟨a, b, rfl⟩ := two_of (l2 j (List.mem_of_getElem? hj))
      refine ⟨pj', _, rfl, sq_tup (sm _ _ hpj'), rfl, _, _, rfl, _, _, rfl, rfl, rfl, ?_⟩
      refine ⟨_, rfl, _, rfl, len3, fun t nt => ?_⟩
      have k3 := same_upd (o := .tup [.int a, .int b, .int 1]) nt
      have et : upd H2 t (.tup [.int a, .int b, .int 1]) t = some (tI [a, b, 1]) := upd_same
      have hD3 := k3 _ _ hD
      generalize upd H2 t (.tup [.int a, .int b, .int 1]) = H3 at *
      refine ⟨_, hD3, (by rw [fv.len, List.length_map, List.length_take]; exact small1000 (by omega)), vs ++ [.ref t], upd_same, ?_, same_at (sm.trans k3) nD⟩
      rw [take_one hj, List.map_append]
      exact ((fv.same k3).app (.cons ⟨t, rfl, et⟩ .nil)).at_new hD3 _
    · rintro H2 ⟨vs, hD, fv, sm⟩
      rw [lv.len, List.take_length] at fv
      refine ⟨D, _, rfl, .inl ⟨sq_lst hD, fun t nt => ?_⟩⟩
      have k3 := same_upd (o := .tup vs) nt
      exact q t vs _ (sm.trans k3) upd_same (fv.same k3)
abbrev s_job_windows : Stmt := topS 8
abbrev n_job_windows : List Str := ["task", "k", "box", "jobs", "place", "length", "need"]
theorem sc_job_windows : FnScope n_job_windows ["task", "k", "box"] (defScope s_job_windows) := ⟨rfl, rfl, rfl, by decide +kernel, rfl, by decide +kernel, by decide +kernel⟩
def spWin (C : Addr) : Sp := fun vs H Q _ => ∃ (v b : V) (k : Nat) (ul : List Unk) (wl : List Wish) (goal : List Int) (js box : List (List Int)), vs = [v, .int k, b] ∧ TaskV C H v ul wl goal ∧ wl[k]? = some (.bench js) ∧ JobsOk ul.length 2 js ∧ JV H b box ∧ BoxOk ul.length box ∧
  ∀ p us H', Same H H' → H' p = some (.tup us) → LVs H' us ((js.map (winOf box)).map wRow) → Q (.ref p) H'
theorem ok_job_windows {f C : Addr} {fd : FuncData} (F : Fun K "job_windows" "job_windows" s_job_windows f fd) (T : Txt K mg w aW aT es nn) (cc : CC K C) (c_jobs_of : Cal P w K mg base 1 "jobs_of" spJobsOf []) : FnOk P w K mg base CX0 2 f fd ["task", "k", "box"] (spWin C) := by
  refine F.ok sc_job_windows (fun vs H Q E h => ?_) (fun cdv A outer s0 H vs Q E hr h => ?_)
  · obtain ⟨v, b, k, ul, wl, goal, js, box, rfl, _⟩ := h
    rfl
  · obtain ⟨v, b, k, ul, wl, goal, js, box, rfl, ⟨x, dx, pu, pw, pg, us, ws, rfl, hx, hpu, uv, hpw, wv, hpg⟩, hk, jo, ⟨pb, bs, rfl, hpb, bv⟩, bo, q⟩ := h
    have lk : k < ws.length := by rw [wv.len]; exact (List.getElem?_eq_some_iff.mp hk).1
    have hwk : ws[k]? = some ws[k] := List.getElem?_eq_getElem lk
    obtain ⟨wk, hwk', wvk⟩ := wv.at_ hwk
    rw [hk] at hwk'
    cases hwk'
    refine ⟨_, (pss_cons (ps_set (i := 3) sc_job_windows.nd rfl (.inl rfl) (pe_c c_jobs_of hr (by decide) (by rfl) (pa_cons (pe_ix ix_tup (pe_fld (pv 0) (by rfl)) (pv 1) (fun _ _ => rfl)) pa_nil)))
      (pss_one (ps_ret (pe_callTy call_tuple_of (by rfl) T.b_tuple (by decide +kernel) (pa_cons (pe_lc (own := [("place", 4), ("length", 5), ("need", 6)]) (g := gTup K 3 (gCons (gName 4) (gCons (gName 5) (gCons (gName 6) gNil)))) rfl sc_job_windows.nd (pi_tup (pv 3)) (blkOk_by (N := n_job_windows) (sc := defScope s_job_windows) (by decide +kernel)) (fun _ _ _ _ _ => (pg_tup rfl (pgs_cons (pg_name (i := 4) sc_job_windows.nd rfl (.inl rfl)) (pgs_cons (pg_name (i := 5) sc_job_windows.nd rfl (.inl rfl)) (pgs_cons (pg_name (i := 6) sc_job_windows.nd rfl (.inl rfl)) pgs_nil))))) (fun _ _ _ _ _ => pts_nil) (fun _ _ _ _ _ => (pe_tup (pa_cons (pe_ix (r := rIxT K) ix_tup (pe_ix (r := rIxT K) ix_tup (pv 2) (pv 4) (fun _ _ => rfl)) pe_int (fun _ _ => rfl)) (pa_cons (pe_ix (r := rIxT K) ix_tup (pe_ix (r := rIxT K) ix_tup (pv 2) (pv 4) (fun _ _ => rfl)) pe_int (fun _ _ => rfl)) (pa_cons (pv 5) (pa_cons (pv 6) pa_nil))))))) pa_nil))))), ?_⟩
    refine ⟨_, rfl, x, C, dx, _, _, rfl, hx, cc.cl, cc.nw, lk_w _ _ _, _, rfl, pw, _, _, _, rfl, rfl, sq_tup hpw, atI_nat hwk, ?_⟩
    refine ⟨_, js, rfl, wvk, jo.len, jo.few, fun pj js' H1 s1 hpj lv => ?_⟩
    refine ⟨_, rfl, pj, rfl, ⟨_, sq_tup hpj⟩, fun D nD => ?_⟩
    refine lc_tup (K := K) (a := pj) (xs := js') (fun i H' => ∃ vs, H' D = some (.lst vs) ∧ LVs H' vs (((js.take i).map (winOf box)).map wRow) ∧ Same H1 H') ⟨[], upd_same, .nil, same_upd nD⟩ (fun i H' _ h => by obtain ⟨_, _, _, sm⟩ := h; exact sq_tup (sm _ _ hpj)) ?_ ?_
    · rintro i y H2 hy ⟨vs, hD, fv, sm⟩
      obtain ⟨j1, hj1, pj', rfl, hpj'⟩ := lv.at_ hy
      rw [List.getElem?_map] at hj1
      obtain ⟨j, hj, rfl⟩ := Option.map_eq_some_iff.mp hj1
      have mj := List.mem_of_getElem? hj
      have li : i < js.length := (List.getElem?_eq_some_iff.mp hj).1
      have few := jo.few
      obtain ⟨a, l, rfl⟩ := two_of (jo.len j mj)
      obtain ⟨a0, a1⟩ := jo.wi a (List.mem_map.mpr ⟨_, mj, rfl⟩)
      obtain ⟨a, rfl⟩ := Int.eq_ofNat_of_zero_le a0
      have ha : a < bs.length := by rw [bv.len, bo.len]; omega
      obtain ⟨r, hr', pr, epr, hpr⟩ := bv.at_ (List.getElem?_eq_getElem ha)
      have hba : bs[a]? = some (.ref pr) := by rw [List.getElem?_eq_getElem ha, epr]
      obtain ⟨lo, hi, rfl⟩ := two_of (bo.two r (List.mem_of_getElem? hr'))
      have s02 := s1.trans sm
      refine ⟨pj', _, rfl, sq_tup (sm _ _ hpj'), rfl, _, _, rfl, _, _, rfl, _, _, rfl, rfl, rfl, ?_⟩
      refine ⟨_, rfl, _, rfl, pb, _, _, _, rfl, rfl, sq_tup (s02 _ _ hpb), atI_nat hba, pr, _, 0, _, rfl, rfl, sq_tup (s02 _ _ hpr), rfl, ?_⟩
      refine ⟨_, rfl, _, rfl, pb, _, _, _, rfl, rfl, sq_tup (s02 _ _ hpb), atI_nat hba, pr, _, 1, _, rfl, rfl, sq_tup (s02 _ _ hpr), rfl, ?_⟩
      refine ⟨_, rfl, _, rfl, len4, fun t nt => ?_⟩
      have k3 := same_upd (o := .tup [.int lo, .int hi, .int l, .int 1]) nt
      have et : upd H2 t (.tup [.int lo, .int hi, .int l, .int 1]) t = some (tI [lo, hi, l, 1]) := upd_same
      have hD3 := k3 _ _ hD
      generalize upd H2 t (.tup [.int lo, .int hi, .int l, .int 1]) = H3 at *
      refine ⟨_, hD3, (by rw [fv.len, List.length_map, List.length_map, List.length_take]; exact small1000 (by omega)), vs ++ [.ref t], upd_same, ?_, same_at (sm.trans k3) nD⟩
      rw [take_one hj, List.map_append, List.map_append]
      refine ((fv.same k3).app (.cons ⟨t, rfl, ?_⟩ .nil)).at_new hD3 _
      have eb : box.getD a [] = [lo, hi] := by rw [List.getD_eq_getElem?_getD, hr']; rfl
      have ew : wRow (winOf box [(a : Int), l]) = [lo, hi, l, 1] := by
        unfold wRow winOf
        show [(box.getD (a : Int).toNat []).getD 0 0, (box.getD (a : Int).toNat []).getD 1 0, l, 1] = _
        rw [Int.toNat_natCast, eb]; rfl
      rw [ew]; exact et
    · rintro H2 ⟨vs, hD, fv, sm⟩
      have l1 := lv.len
      rw [List.length_map] at l1
      rw [l1, List.take_length] at fv
      refine ⟨D, _, rfl, .inl ⟨sq_lst hD, fun t nt => ?_⟩⟩
      have k3 := same_upd (o := .tup vs) nt
      exact q t vs _ ((s1.trans sm).trans k3) upd_same (fv.same k3)
end
end M63

namespace M63
open PySem PySem.Spec PyProof.Rows L2 SX Own Gd
open C8 (Cal pe_c pe_gc pe_mk Mak pss_cut)
/-! ### starts in a sequence -/
def nats (s : List Nat) : List V := s.map fun (j : Nat) => V.int (j : Int)
theorem rep1 (n : Nat) : (List.replicate (n : Int).toNat [V.int 0]).flatten = (List.replicate n (0 : Int)).map V.int := by
  rw [Int.toNat_natCast]
  induction n with
  | zero => rfl
  | succ n ih => rw [List.replicate_succ, List.replicate_succ, List.flatten_cons, ih]; rfl
theorem win_at {H : Hp} {us : List V} {ws : List Win} (h : LVs H us (ws.map wRow)) {j : Nat} (hj : j < ws.length) : ∃ p, us[j]? = some (.ref p) ∧ H p = some (.tup [.int (ws.getD j W0).1, .int (ws.getD j W0).2.1, .int (ws.getD j W0).2.2.1, .int (ws.getD j W0).2.2.2]) := by
  have l := h.len
  rw [List.length_map] at l
  have hu : us[j]? = some us[j] := List.getElem?_eq_getElem (by omega)
  obtain ⟨a, ha, p, e, hp⟩ := h.at_ hu
  rw [List.getElem?_map, List.getElem?_eq_getElem hj] at ha
  cases ha
  refine ⟨p, by rw [hu, e], ?_⟩
  rw [show ws.getD j W0 = ws[j] by rw [List.getD_eq_getElem?_getD, List.getElem?_eq_getElem hj]; rfl]
  exact hp
theorem ixN_nat {n j : Nat} (h : j < n) : ixN n (j : Int) = some j := by
  unfold ixN
  rw [if_pos (by omega), if_pos (by omega), Int.toNat_natCast]
theorem set_map {f : List Int} {j : Nat} {x : Int} : (f.map V.int).set j (.int x) = (f.set j x).map V.int := (List.map_set ..).symm
theorem max_st (t : Int) (w : Win) : (if t > w.1 then t else w.1) = stW t w := by unfold stW; split <;> split <;> omega
theorem st_first {t0 : Int} {w : Win} (h : t0 ≤ w.1) : stW t0 w = w.1 := by unfold stW; split <;> omega
section
variable {P : Program} {w : World} {K : PySem.W.Frag} {mg : Str → Option Value} {base : Heap} {aW aT : Addr} {es : Array DictEntry} {nn : Nat}
abbrev s_starts_in_sequence : Stmt := topS 9
abbrev n_starts_in_sequence : List Str := ["task", "k", "box", "sequence", "windows", "starts", "free", "job", "low", "high", "length", "_", "start"]
theorem sc_starts_in_sequence : FnScope n_starts_in_sequence ["task", "k", "box", "sequence"] (defScope s_starts_in_sequence) := ⟨rfl, rfl, rfl, by decide +kernel, rfl, by decide +kernel, by decide +kernel⟩
def spStarts (C : Addr) : Sp := fun vs H Q _ => ∃ (v b : V) (k : Nat) (ul : List Unk) (wl : List Wish) (goal : List Int) (js box : List (List Int)) (ps : Addr) (s : List Nat) (t0 : Int), vs = [v, .int k, b, .ref ps] ∧ TaskV C H v ul wl goal ∧ wl[k]? = some (.bench js) ∧ JobsOk ul.length 2 js ∧ JV H b box ∧ BoxOk ul.length box ∧
  H ps = some (.tup (nats s)) ∧ (∀ j ∈ s, j < js.length) ∧ (∀ w ∈ js.map (winOf box), t0 ≤ w.1) ∧ (goT (js.map (winOf box)) s (List.replicate js.length 0) t0 = none → ∀ H', Same H H' → Q .non H') ∧
  ∀ f t' u H', goT (js.map (winOf box)) s (List.replicate js.length 0) t0 = some (f, t') → Same H H' → LV H' u f → Q u H'
theorem ok_starts_in_sequence {f C : Addr} {fd : FuncData} (F : Fun K "starts_in_sequence" "starts_in_sequence" s_starts_in_sequence f fd) (T : Txt K mg w aW aT es nn) (c_job_windows : Cal P w K mg base 2 "job_windows" (spWin C) []) : FnOk P w K mg base CX0 3 f fd ["task", "k", "box", "sequence"] (spStarts C) := by
  refine F.ok sc_starts_in_sequence (fun vs H Q E h => ?_) (fun cdv A outer s0 H vs Q E hr h => ?_)
  · obtain ⟨v, b, k, ul, wl, goal, js, box, ps, s, t0, rfl, _⟩ := h
    rfl
  · obtain ⟨v, b, k, ul, wl, goal, js, box, ps, s, t0, rfl, tv, hk, jo, bv, bo, hps, hs, h0, q1, q2⟩ := h
    have few := jo.few
    refine ⟨_, (pss_cons (ps_set (i := 4) sc_starts_in_sequence.nd rfl (.inl rfl) (pe_c c_job_windows hr (by decide) (by rfl) (pa_cons (pv 0) (pa_cons (pv 1) (pa_cons (pv 2) pa_nil)))))
      (pss_cons (ps_set (i := 5) sc_starts_in_sequence.nd rfl (.inl rfl) (pe_op op_rep (pe_lst (pa_cons pe_int pa_nil)) (pe_callB call_len_seq (by rfl) T.b_len (by decide +kernel) (pa_cons (pv 4) pa_nil))))
      (pss_cons (ps_set (i := 6) sc_starts_in_sequence.nd rfl (.inl rfl) pe_non)
      (pss_cons (ps_for PassesOwn.never rfl (pi_tup (pv 3)) (pg_name (i := 7) sc_starts_in_sequence.nd rfl (.inl rfl)) (pss_cons (ps_asg (pe_ix ix_tup (pv 4) (pv 7) (fun _ _ => rfl)) (pg_tup rfl (pgs_cons (pg_name (i := 8) sc_starts_in_sequence.nd rfl (.inl rfl)) (pgs_cons (pg_name (i := 9) sc_starts_in_sequence.nd rfl (.inl rfl)) (pgs_cons (pg_name (i := 10) sc_starts_in_sequence.nd rfl (.inl rfl)) (pgs_cons (pg_name (i := 11) sc_starts_in_sequence.nd rfl (.inl rfl)) pgs_nil))))))
        (pss_cut (ps_set (i := 12) sc_starts_in_sequence.nd rfl (.inl rfl) (pe_ifExp (pt_cmpR op_isN (pv 6) pe_non (nomark _)) (pv 8) (pe_callB (call_max2 rfl) (by rfl) T.b_max (by decide +kernel) (pa_cons (pv 8) (pa_cons (pv 6) pa_nil)))))
        (pss_cons (ps_if (pt_cmpR op_gt (pv 12) (pv 9) (nomark _)) (pss_one (ps_ret pe_non)) pss_nil)
        (pss_cons (ps_asg (pv 12) (pg_sub (pv 5) (pv 7) set_list))
        (pss_one (ps_set (i := 6) sc_starts_in_sequence.nd rfl (.inl rfl) (pe_op op_add (pv 12) (pv 10)))))))))
      (pss_one (ps_ret (pe_callTy call_tuple_of (by rfl) T.b_tuple (by decide +kernel) (pa_cons (pv 5) pa_nil)))))))), ?_⟩
    refine ⟨_, rfl, _, rfl, _, rfl, v, b, k, ul, wl, goal, js, box, rfl, tv, hk, jo, bv, bo, fun pw us H1 s1 hpw lv => ?_⟩
    have lw : (js.map (winOf box)).length = js.length := List.length_map ..
    generalize js.map (winOf box) = ws at *
    have lus : us.length = js.length := by rw [lv.len, List.length_map, lw]
    refine ⟨len1, fun l1 nl1 => ?_⟩
    have k2 := same_upd (o := .lst [.int 0]) nl1
    refine ⟨_, rfl, pw, _, rfl, .inr (sq_tup (k2 _ _ hpw)), l1, _, _, rfl, rfl, upd_same, by omega, by rw [lus]; omega, by show 1 * _ ≤ _; rw [lus, sizeLine_eq]; omega, fun D nD => ?_⟩
    rw [lus, rep1]
    have n1 : H1 D = none := k2.free nD
    refine ⟨_, rfl, ps, rfl, ⟨_, sq_tup (same_at (k2 : Same H1 _) n1 _ _ (s1 _ _ hps))⟩, for_tup (K := K) (a := ps) (xs := nats s) (fun i σ H' => ∃ (f : List Int) (t : Int) (fr : V) (y7 y8 y9 y10 y11 y12 : Option V),
        σ = [some v, some (.int (k : Int)), some b, some (.ref ps), some (.ref pw), some (.ref D), some fr, y7, y8, y9, y10, y11, y12] ∧ Same H1 H' ∧ H' D = some (.lst (f.map V.int)) ∧ f.length = js.length ∧ goT ws s (List.replicate js.length 0) t0 = goT ws (s.drop i) f t ∧ ((fr = .non ∧ t = t0) ∨ fr = .int t))
      ⟨List.replicate js.length 0, t0, .non, none, none, none, none, none, none, rfl, same_at k2 n1, upd_same, List.length_replicate .., rfl, .inl ⟨rfl, rfl⟩⟩ (fun i σ H' _ h => ?_) (fun i x σ H' hx h => ?_) (fun σ H' h => ?_)⟩
    · obtain ⟨_, _, _, _, _, _, _, _, _, _, sm, _⟩ := h
      exact sq_tup (sm _ _ (s1 _ _ hps))
    · obtain ⟨fs, t, fr, y7, y8, y9, y10, y11, y12, rfl, sm, hD, fl, eg, cf⟩ := h
      obtain ⟨j, hj, rfl⟩ := at_map hx
      have mj := hs j (List.mem_of_getElem? hj)
      have li : i < s.length := (List.getElem?_eq_some_iff.mp hj).1
      obtain ⟨pj, huj, hpj⟩ := win_at lv (j := j) (by omega)
      have h0j := h0 _ (getW (ws := ws) (j := j) (by omega))
      have ed : s.drop i = j :: s.drop (i + 1) := by rw [List.drop_eq_getElem_cons li, (List.getElem?_eq_some_iff.mp hj).2]
      rw [ed] at eg
      have hpj2 := sm _ _ hpj
      generalize hw : ws.getD j W0 = wj at *
      refine ⟨_, rfl, _, rfl, pw, _, _, _, rfl, rfl, sq_tup (sm _ _ hpw), atI_nat huj, pj, _, rfl, sq_tup hpj2, rfl, _, _, rfl, _, _, rfl, _, _, rfl, _, _, rfl, rfl, ?_⟩
      refine ⟨fun σ' H2 => σ' = [some v, some (.int (k : Int)), some b, some (.ref ps), some (.ref pw), some (.ref D), some fr, some (.int (j : Int)), some (.int wj.1), some (.int wj.2.1), some (.int wj.2.2.1), some (.int wj.2.2.2), some (.int (stW t wj))] ∧ H' = H2, ?_, fun σ' H2 hM => ?_⟩
      · rcases cf with ⟨rfl, rfl⟩ | rfl
        · exact ⟨_, rfl, rfl, _, rfl, iteT ⟨_, rfl, by rw [st_first h0j]; exact ⟨rfl, rfl⟩⟩⟩
        · refine ⟨_, rfl, rfl, _, rfl, ite2 (fun h => absurd h (by simp)) (fun _ => ⟨_, rfl, _, rfl, _, _, rfl, ?_⟩)⟩
          rw [max_st]
          exact ⟨rfl, rfl⟩
      obtain ⟨rfl, rfl⟩ := hM
      have eg2 : goT ws (j :: s.drop (i + 1)) fs t = if wj.2.1 < stW t wj then none else goT ws (s.drop (i + 1)) (fs.set j (stW t wj)) (stW t wj + wj.2.2.1) := by
        conv => lhs; unfold goT
        rw [hw]
      refine ⟨_, rfl, _, rfl, _, _, rfl, rfl, _, rfl, ite2 (fun h1 => ?_) (fun h1 => ?_)⟩
      · have h1 : wj.2.1 < stW t wj := of_decide_eq_true h1
        rw [eg2, if_pos h1] at eg
        exact q1 eg _ (s1.trans sm)
      · have h1 : ¬ wj.2.1 < stW t wj := fun z => h1 (decide_eq_true z)
        rw [eg2, if_neg h1] at eg
        refine ⟨_, rfl, _, rfl, _, rfl, D, _, _, j, rfl, rfl, hD, ixN_nat (by rw [List.length_map]; omega), ?_⟩
        rw [set_map]
        refine ⟨_, rfl, _, rfl, _, _, rfl, rfl, ?_⟩
        exact ⟨_, _, _, _, _, _, _, _, _, rfl, same_at sm n1, upd_same, by rw [List.length_set]; exact fl, eg, .inr rfl⟩
    · obtain ⟨fs, t, fr, y7, y8, y9, y10, y11, y12, rfl, sm, hD, fl, eg, cf⟩ := h
      have ls : (nats s).length = s.length := List.length_map ..
      rw [ls, List.drop_length] at eg
      refine ⟨_, rfl, D, _, rfl, .inl ⟨sq_lst hD, fun u nu => ?_⟩⟩
      have k5 := same_upd (o := .tup (fs.map V.int)) nu
      exact q2 fs t _ _ eg ((s1.trans sm).trans k5) ⟨u, rfl, upd_same⟩
end
end M63

namespace M63
open PySem PySem.Spec PyProof.Rows L2 SX Own Gd
open C8 (Cal pe_c pe_gc pe_mk Mak pss_cut)
/-! ### the law's own reading -/
theorem get_map {f : List Int} {j : Nat} (h : j < f.length) : (f.map V.int)[j]? = some (.int (f.getD j 0)) := by
  rw [List.getElem?_map, List.getElem?_eq_getElem h, List.getD_eq_getElem?_getD, List.getElem?_eq_getElem h]; rfl
theorem zero_at {α : Type} {xs : List α} {j : Nat} {x : α} (h : xs[j]? = some x) : atI xs (0 + (j : Int)) = some x := by rw [Int.zero_add]; exact atI_nat h
section
variable {P : Program} {w : World} {K : PySem.W.Frag} {mg : Str → Option Value} {base : Heap} {aW aT : Addr} {es : Array DictEntry} {nn : Nat}
abbrev s_Lwindows : Stmt := topS 44
abbrev n_Lwindows : List Str := ["wish", "box", "place", "length", "need"]
theorem sc_Lwindows : FnScope n_Lwindows ["wish", "box"] (defScope s_Lwindows) := ⟨rfl, rfl, rfl, by decide +kernel, rfl, by decide +kernel, by decide +kernel⟩
def spLWin : Sp := fun vs H Q _ => ∃ (v b : V) (js box : List (List Int)) (n : Nat), vs = [v, b] ∧ WV H v (.bench js) ∧ JobsOk n 2 js ∧ JV H b box ∧ BoxOk n box ∧
  ∀ p l us H', Same H H' → H' p = some (.tup [.ref l, .int 1]) → H' l = some (.lst us) → H l = none → LVs H' us ((js.map (winOf box)).map wRow) → Q (.ref p) H'
theorem ok_Lwindows {f : Addr} {fd : FuncData} (F : Fun K "_law_windows" "_law_windows" s_Lwindows f fd) (T : Txt K mg w aW aT es nn) : FnOk P w K mg base CX0 1 f fd ["wish", "box"] spLWin := by
  refine F.ok sc_Lwindows (fun vs H Q E h => ?_) (fun cdv A outer s0 H vs Q E hr h => ?_)
  · obtain ⟨v, b, js, box, n, rfl, _⟩ := h
    rfl
  · obtain ⟨v, b, js, box, n, rfl, ⟨p, u, rfl, hp, ⟨pj, us, rfl, hpj, lv⟩⟩, jo, ⟨pb, bs, rfl, hpb, bv⟩, bo, q⟩ := h
    have few := jo.few
    refine ⟨_, (pss_cons (ps_if (pt_cmpR op_eq (pe_ix ix_tup (pv 0) pe_int (fun _ _ => rfl)) pe_str (nomark _)) (pss_one (ps_ret (pe_tup (pa_cons (pe_lc (own := [("place", 2), ("length", 3)]) (g := gTup K 2 (gCons (gName 2) (gCons (gName 3) gNil))) rfl sc_Lwindows.nd (pi_tup (pe_ix ix_tup (pv 0) pe_int (fun _ _ => rfl))) (blkOk_by (N := n_Lwindows) (sc := defScope s_Lwindows) (by decide +kernel)) (fun _ _ _ _ _ => (pg_tup rfl (pgs_cons (pg_name (i := 2) sc_Lwindows.nd rfl (.inl rfl)) (pgs_cons (pg_name (i := 3) sc_Lwindows.nd rfl (.inl rfl)) pgs_nil)))) (fun _ _ _ _ _ => pts_nil) (fun _ _ _ _ _ => (pe_op (r := rCatA K) op_catA (pe_ix (r := rIxT K) ix_tup (pv 1) (pv 2) (fun _ _ => rfl)) (pe_tup (pa_cons (pv 3) (pa_cons pe_int pa_nil)))))) (pa_cons pe_int pa_nil))))) pss_nil)
      (pss_one (ps_ret (pe_tup (pa_cons (pe_lc (own := [("place", 2), ("length", 3), ("need", 4)]) (g := gTup K 3 (gCons (gName 2) (gCons (gName 3) (gCons (gName 4) gNil)))) rfl sc_Lwindows.nd (pi_tup (pe_ix ix_tup (pv 0) pe_int (fun _ _ => rfl))) (blkOk_by (N := n_Lwindows) (sc := defScope s_Lwindows) (by decide +kernel)) (fun _ _ _ _ _ => (pg_tup rfl (pgs_cons (pg_name (i := 2) sc_Lwindows.nd rfl (.inl rfl)) (pgs_cons (pg_name (i := 3) sc_Lwindows.nd rfl (.inl rfl)) (pgs_cons (pg_name (i := 4) sc_Lwindows.nd rfl (.inl rfl)) pgs_nil))))) (fun _ _ _ _ _ => pts_nil) (fun _ _ _ _ _ => (pe_op (r := rCatA K) op_catA (pe_ix (r := rIxT K) ix_tup (pv 1) (pv 2) (fun _ _ => rfl)) (pe_tup (pa_cons (pv 3) (pa_cons (pv 4) pa_nil)))))) (pa_cons (pe_ix ix_tup (pv 0) pe_int (fun _ _ => rfl)) pa_nil)))))), ?_⟩
    refine ⟨_, rfl, p, _, 0, _, rfl, rfl, sq_tup hp, rfl, rfl, _, rfl, iteT ?_⟩
    refine ⟨_, rfl, p, _, 1, _, rfl, rfl, sq_tup hp, rfl, pj, rfl, ⟨_, sq_tup hpj⟩, fun D nD => ?_⟩
    refine lc_tup (K := K) (a := pj) (xs := us) (fun i H' => ∃ vs, H' D = some (.lst vs) ∧ LVs H' vs (((js.take i).map (winOf box)).map wRow) ∧ Same H H') ⟨[], upd_same, .nil, same_upd nD⟩ (fun i H' _ h => by obtain ⟨_, _, _, sm⟩ := h; exact sq_tup (sm _ _ hpj)) ?_ ?_
    · rintro i y H2 hy ⟨vs, hD, fv, sm⟩
      obtain ⟨j, hj, pj', rfl, hpj'⟩ := lv.at_ hy
      have mj := List.mem_of_getElem? hj
      have li : i < js.length := (List.getElem?_eq_some_iff.mp hj).1
      obtain ⟨a, l, rfl⟩ := two_of (jo.len j mj)
      obtain ⟨a0, a1⟩ := jo.wi a (List.mem_map.mpr ⟨_, mj, rfl⟩)
      obtain ⟨a, rfl⟩ := Int.eq_ofNat_of_zero_le a0
      have ha : a < bs.length := by rw [bv.len, bo.len]; omega
      obtain ⟨r, hr', pr, epr, hpr⟩ := bv.at_ (List.getElem?_eq_getElem ha)
      have hba : bs[a]? = some (.ref pr) := by rw [List.getElem?_eq_getElem ha, epr]
      obtain ⟨lo, hi, rfl⟩ := two_of (bo.two r (List.mem_of_getElem? hr'))
      refine ⟨pj', _, rfl, sq_tup (sm _ _ hpj'), rfl, _, _, rfl, _, _, rfl, rfl, rfl, ?_⟩
      refine ⟨_, rfl, _, rfl, pb, _, _, _, rfl, rfl, sq_tup (sm _ _ hpb), atI_nat hba, _, rfl, len2, fun t1 nt1 => ?_⟩
      have k2 := same_upd (o := .tup [.int l, .int 1]) nt1
      refine ⟨pr, t1, _, _, rfl, rfl, sq_tup (k2 _ _ (sm _ _ hpr)), sq_tup upd_same, (by show 4 ≤ sizeLine; rw [sizeLine_eq]; decide), (fun z => by simp at z), (fun _ z => by simp at z), fun _ _ t nt => ?_⟩
      have k3 := k2.trans (same_upd (o := .tup ([.int lo, .int hi] ++ [.int l, .int 1])) nt)
      have et : upd (upd H2 t1 (.tup [.int l, .int 1])) t (.tup ([.int lo, .int hi] ++ [.int l, .int 1])) t = some (tI [lo, hi, l, 1]) := upd_same
      have hD3 := k3 _ _ hD
      refine ⟨_, hD3, (by rw [fv.len, List.length_map, List.length_map, List.length_take]; exact small1000 (by omega)), vs ++ [.ref t], upd_same, ?_, same_at (sm.trans k3) nD⟩
      rw [take_one hj, List.map_append, List.map_append]
      refine ((fv.same k3).app (.cons ⟨t, rfl, ?_⟩ .nil)).at_new hD3 _
      have eb : box.getD a [] = [lo, hi] := by rw [List.getD_eq_getElem?_getD, hr']; rfl
      have ew : wRow (winOf box [(a : Int), l]) = [lo, hi, l, 1] := by
        unfold wRow winOf
        show [(box.getD (a : Int).toNat []).getD 0 0, (box.getD (a : Int).toNat []).getD 1 0, l, 1] = _
        rw [Int.toNat_natCast, eb]; rfl
      rw [ew]; exact et
    · rintro H2 ⟨vs, hD, fv, sm⟩
      rw [lv.len, List.take_length] at fv
      refine ⟨len2, fun t nt => ?_⟩
      have k3 := same_upd (o := .tup [.ref D, .int 1]) nt
      exact q t D vs _ (sm.trans k3) upd_same (k3 _ _ hD) nD (fv.same k3)
abbrev s_Lstarts : Stmt := topS 46
abbrev n_Lstarts : List Str := ["windows", "sequence", "found", "now", "job", "low", "high", "length", "need", "start"]
theorem sc_Lstarts : FnScope n_Lstarts ["windows", "sequence"] (defScope s_Lstarts) := ⟨rfl, rfl, rfl, by decide +kernel, rfl, by decide +kernel, by decide +kernel⟩
def spLSt : Sp := fun vs H Q _ => ∃ (l ps : Addr) (us : List V) (ws : List Win) (s : List Nat) (t0 : Int), vs = [.ref l, .ref ps] ∧ H l = some (.lst us) ∧ LVs H us (ws.map wRow) ∧ ws.length ≤ 100 ∧ H ps = some (.tup (nats s)) ∧ (∀ j ∈ s, j < ws.length) ∧ (∀ w ∈ ws, t0 ≤ w.1) ∧
  (goT ws s (List.replicate ws.length 0) t0 = none → ∀ H', Same H H' → Q .non H') ∧ ∀ f t' u H', goT ws s (List.replicate ws.length 0) t0 = some (f, t') → Same H H' → LV H' u f → Q u H'
theorem ok_Lstarts {f : Addr} {fd : FuncData} (F : Fun K "_law_starts" "_law_starts" s_Lstarts f fd) (T : Txt K mg w aW aT es nn) : FnOk P w K mg base CX0 1 f fd ["windows", "sequence"] spLSt := by
  refine F.ok sc_Lstarts (fun vs H Q E h => ?_) (fun cdv A outer s0 H vs Q E hr h => ?_)
  · obtain ⟨l, ps, us, ws, s, t0, rfl, _⟩ := h
    rfl
  · obtain ⟨l, ps, us, ws, s, t0, rfl, hl, lv, few, hps, hs, h0, q1, q2⟩ := h
    have lus : us.length = ws.length := by rw [lv.len, List.length_map]
    refine ⟨_, (pss_cons (ps_par (i := 2) (j := 3) (by rfl) sc_Lstarts.nd rfl rfl (by decide) rfl rfl (pa_cons (pe_op op_rep (pe_lst (pa_cons pe_int pa_nil)) (pe_callB call_len_seq (by rfl) T.b_len (by decide +kernel) (pa_cons (pv 0) pa_nil))) (pa_cons pe_non pa_nil)) (by rfl))
      (pss_cons (ps_for PassesOwn.never rfl (pi_tup (pv 1)) (pg_name (i := 4) sc_Lstarts.nd rfl (.inl rfl)) (pss_cons (ps_asg (pe_ix ix_list (pv 0) (pv 4) (fun _ _ => rfl)) (pg_tup rfl (pgs_cons (pg_name (i := 5) sc_Lstarts.nd rfl (.inl rfl)) (pgs_cons (pg_name (i := 6) sc_Lstarts.nd rfl (.inl rfl)) (pgs_cons (pg_name (i := 7) sc_Lstarts.nd rfl (.inl rfl)) (pgs_cons (pg_name (i := 8) sc_Lstarts.nd rfl (.inl rfl)) pgs_nil))))))
        (pss_cut (ps_set (i := 9) sc_Lstarts.nd rfl (.inl rfl) (pe_ifExp (PW.pt (pw_or (pt_cmpR op_isN (pv 3) pe_non (nomark _)) (pw_or1 (pt_cmpR op_lt (pv 3) (pv 5) (nomark _))))) (pv 5) (pv 3)))
        (pss_cons (ps_if (pt_cmpR op_gt (pv 9) (pv 6) (nomark _)) (pss_one (ps_ret pe_non)) pss_nil)
        (pss_cons (ps_asg (pv 9) (pg_sub (pv 2) (pv 4) set_list))
        (pss_one (ps_set (i := 3) sc_Lstarts.nd rfl (.inl rfl) (pe_op op_add (pv 9) (pv 7)))))))))
      (pss_one (ps_ret (pe_callTy call_tuple_of (by rfl) T.b_tuple (by decide +kernel) (pa_cons (pv 2) pa_nil)))))), ?_⟩
    refine ⟨len1, fun l1 nl1 => ?_⟩
    have k2 := same_upd (o := .lst [.int 0]) nl1
    refine ⟨_, rfl, l, _, rfl, .inl (sq_lst (k2 _ _ hl)), l1, _, _, rfl, rfl, upd_same, by omega, by rw [lus]; omega, by show 1 * _ ≤ _; rw [lus, sizeLine_eq]; omega, fun D nD => ?_⟩
    rw [lus, rep1]
    have n1 : H D = none := k2.free nD
    refine ⟨_, _, rfl, ?_⟩
    refine ⟨_, rfl, ps, rfl, ⟨_, sq_tup (same_at (k2 : Same H _) n1 _ _ hps)⟩, for_tup (K := K) (a := ps) (xs := nats s) (fun i σ H' => ∃ (f : List Int) (t : Int) (fr : V) (y4 y5 y6 y7 y8 y9 : Option V),
        σ = [some (.ref l), some (.ref ps), some (.ref D), some fr, y4, y5, y6, y7, y8, y9] ∧ Same H H' ∧ H' D = some (.lst (f.map V.int)) ∧ f.length = ws.length ∧ goT ws s (List.replicate ws.length 0) t0 = goT ws (s.drop i) f t ∧ ((fr = .non ∧ t = t0) ∨ fr = .int t))
      ⟨List.replicate ws.length 0, t0, .non, none, none, none, none, none, none, rfl, same_at k2 n1, upd_same, List.length_replicate .., rfl, .inl ⟨rfl, rfl⟩⟩ (fun i σ H' _ h => ?_) (fun i x σ H' hx h => ?_) (fun σ H' h => ?_)⟩
    · obtain ⟨_, _, _, _, _, _, _, _, _, _, sm, _⟩ := h
      exact sq_tup (sm _ _ hps)
    · obtain ⟨fs, t, fr, y7, y8, y9, y10, y11, y12, rfl, sm, hD, fl, eg, cf⟩ := h
      obtain ⟨j, hj, rfl⟩ := at_map hx
      have mj := hs j (List.mem_of_getElem? hj)
      have li : i < s.length := (List.getElem?_eq_some_iff.mp hj).1
      obtain ⟨pj, huj, hpj⟩ := win_at lv (j := j) (by omega)
      have h0j := h0 _ (getW (ws := ws) (j := j) (by omega))
      have ed : s.drop i = j :: s.drop (i + 1) := by rw [List.drop_eq_getElem_cons li, (List.getElem?_eq_some_iff.mp hj).2]
      rw [ed] at eg
      have hpj2 := sm _ _ hpj
      generalize hw : ws.getD j W0 = wj at *
      refine ⟨_, rfl, _, rfl, l, _, _, _, rfl, rfl, sq_lst (sm _ _ hl), atI_nat huj, pj, _, rfl, sq_tup hpj2, rfl, _, _, rfl, _, _, rfl, _, _, rfl, _, _, rfl, rfl, ?_⟩
      refine ⟨fun σ' H2 => σ' = [some (.ref l), some (.ref ps), some (.ref D), some fr, some (.int (j : Int)), some (.int wj.1), some (.int wj.2.1), some (.int wj.2.2.1), some (.int wj.2.2.2), some (.int (stW t wj))] ∧ H' = H2, ?_, fun σ' H2 hM => ?_⟩
      · rcases cf with ⟨rfl, rfl⟩ | rfl
        · exact ⟨_, rfl, rfl, _, rfl, iteT (iteT ⟨_, rfl, by rw [st_first h0j]; exact ⟨rfl, rfl⟩⟩)⟩
        · refine ⟨_, rfl, rfl, _, rfl, ite2 (fun h => absurd h (by simp)) (fun _ => ⟨_, rfl, _, rfl, _, _, rfl, rfl, _, rfl, ite2 (fun h => ?_) (fun h => ?_)⟩)⟩
          · have h : t < wj.1 := of_decide_eq_true h
            exact ⟨_, rfl, by unfold stW; rw [if_pos h]; exact ⟨rfl, rfl⟩⟩
          · have h : ¬ t < wj.1 := fun z => h (decide_eq_true z)
            exact ⟨_, rfl, by unfold stW; rw [if_neg h]; exact ⟨rfl, rfl⟩⟩
      obtain ⟨rfl, rfl⟩ := hM
      have eg2 : goT ws (j :: s.drop (i + 1)) fs t = if wj.2.1 < stW t wj then none else goT ws (s.drop (i + 1)) (fs.set j (stW t wj)) (stW t wj + wj.2.2.1) := by
        conv => lhs; unfold goT
        rw [hw]
      refine ⟨_, rfl, _, rfl, _, _, rfl, rfl, _, rfl, ite2 (fun h1 => ?_) (fun h1 => ?_)⟩
      · have h1 : wj.2.1 < stW t wj := of_decide_eq_true h1
        rw [eg2, if_pos h1] at eg
        exact q1 eg _ sm
      · have h1 : ¬ wj.2.1 < stW t wj := fun z => h1 (decide_eq_true z)
        rw [eg2, if_neg h1] at eg
        refine ⟨_, rfl, _, rfl, _, rfl, D, _, _, j, rfl, rfl, hD, ixN_nat (by rw [List.length_map]; omega), ?_⟩
        rw [set_map]
        refine ⟨_, rfl, _, rfl, _, _, rfl, rfl, ?_⟩
        exact ⟨_, _, _, _, _, _, _, _, _, rfl, same_at sm n1, upd_same, by rw [List.length_set]; exact fl, eg, .inr rfl⟩
    · obtain ⟨fs, t, fr, y7, y8, y9, y10, y11, y12, rfl, sm, hD, fl, eg, cf⟩ := h
      have ls : (nats s).length = s.length := List.length_map ..
      rw [ls, List.drop_length] at eg
      refine ⟨_, rfl, D, _, rfl, .inl ⟨sq_lst hD, fun u nu => ?_⟩⟩
      have k5 := same_upd (o := .tup (fs.map V.int)) nu
      exact q2 fs t _ _ eg (sm.trans k5) ⟨u, rfl, upd_same⟩
abbrev s_Llast : Stmt := topS 47
abbrev n_Llast : List Str := ["windows", "starts", "job"]
theorem sc_Llast : FnScope n_Llast ["windows", "starts"] (defScope s_Llast) := ⟨rfl, rfl, rfl, by decide +kernel, rfl, by decide +kernel, by decide +kernel⟩
def spLast : Sp := fun vs H Q _ => ∃ (l : Addr) (v : V) (us : List V) (ws : List Win) (f : List Int), vs = [.ref l, v] ∧ H l = some (.lst us) ∧ LVs H us (ws.map wRow) ∧ 1 ≤ ws.length ∧ ws.length ≤ 100 ∧ LV H v f ∧ f.length = ws.length ∧ ∀ m H', Same H H' → m ∈ lastOf ws f → (∀ y ∈ lastOf ws f, y ≤ m) → Q (.int m) H'
theorem ok_Llast {f : Addr} {fd : FuncData} (F : Fun K "_law_last" "_law_last" s_Llast f fd) (T : Txt K mg w aW aT es nn) : FnOk P w K mg base CX0 1 f fd ["windows", "starts"] spLast := by
  refine F.ok sc_Llast (fun vs H Q E h => ?_) (fun cdv A outer s0 H vs Q E hr h => ?_)
  · obtain ⟨l, v, us, ws, f, rfl, _⟩ := h
    rfl
  · obtain ⟨l, v, us, ws, f, rfl, hl, lv, n1, few, ⟨pf, rfl, hf⟩, fl, q⟩ := h
    have lus : us.length = ws.length := by rw [lv.len, List.length_map]
    refine ⟨_, (pss_one (ps_ret (pe_callB (cr_max rfl) (by rfl) T.b_max (by decide +kernel) (pa_cons (pe_lc (own := [("job", 2)]) rfl sc_Llast.nd (pi_range1 (by rfl) T.b_range (pa_cons (pe_callB call_len_seq (by rfl) T.b_len (by decide +kernel) (pa_cons (pv 0) pa_nil)) pa_nil)) (blkOk_by (N := n_Llast) (sc := defScope s_Llast) (by decide +kernel)) (fun _ _ _ _ _ => (pg_name (i := 2) sc_Llast.nd rfl (.inl rfl))) (fun _ _ _ _ _ => pts_nil) (fun _ _ _ _ _ => (pe_op op_add (pe_ix (r := rIxT K) ix_tup (pv 1) (pv 2) (fun _ _ => rfl)) (pe_ix (r := rIxT K) ix_tup (pe_ix (r := rIxL K) ix_list (pv 0) (pv 2) (fun _ _ => rfl)) pe_int (fun _ _ => rfl))))) pa_nil)))), ?_⟩
    refine ⟨_, rfl, l, _, rfl, .inl (sq_lst hl), _, rfl, by omega, by rw [lus]; omega, fun D nD => ?_⟩
    rw [lus]
    refine lc_range (lo := 0) (n := ws.length) (fun i H' => H' D = some (.lst (((List.range i).map fun j => f.getD j 0 + (ws.getD j W0).2.2.1).map V.int)) ∧ Same H H') ⟨upd_same, same_upd nD⟩ ?_ ?_
    · rintro i H2 hi ⟨hD, sm⟩
      obtain ⟨pj, huj, hpj⟩ := win_at lv hi
      refine ⟨rfl, _, rfl, _, rfl, pf, _, _, _, rfl, rfl, sq_tup (sm _ _ hf), zero_at (get_map (by omega)), _, rfl, _, rfl, l, _, _, _, rfl, rfl, sq_lst (sm _ _ hl), zero_at huj, pj, _, 2, _, rfl, rfl, sq_tup (sm _ _ hpj), rfl, _, _, rfl, rfl, ?_⟩
      refine ⟨_, hD, (by rw [List.length_map, List.length_map, List.length_range]; exact small1000 (by omega)), ?_, same_at sm nD⟩
      rw [upd_same, List.range_succ, List.map_append, List.map_append]; rfl
    · rintro H2 ⟨hD, sm⟩
      refine ⟨D, lastOf ws f, rfl, sq_lst hD, by unfold lastOf; rw [List.length_map, List.length_range]; omega, fun m h1 h2 => q m _ sm h1 h2⟩
abbrev s_Lare_kept : Stmt := topS 48
abbrev n_Lare_kept : List Str := ["windows", "starts", "job", "other"]
theorem sc_Lare_kept : FnScope n_Lare_kept ["windows", "starts"] (defScope s_Lare_kept) := ⟨rfl, rfl, rfl, by decide +kernel, rfl, by decide +kernel, by decide +kernel⟩
def spKept : Sp := fun vs H Q _ => ∃ (l : Addr) (v : V) (us : List V) (ws : List Win) (f : List Int), vs = [.ref l, v] ∧ H l = some (.lst us) ∧ LVs H us (ws.map wRow) ∧ ws.length ≤ 100 ∧ LV H v f ∧ f.length = ws.length ∧
  (∀ j, j < ws.length → (ws.getD j W0).1 ≤ f.getD j 0 ∧ f.getD j 0 ≤ (ws.getD j W0).2.1) ∧ (∀ i j, i < ws.length → j < ws.length → i ≠ j → f.getD i 0 + (ws.getD i W0).2.2.1 ≤ f.getD j 0 ∨ f.getD j 0 + (ws.getD j W0).2.2.1 ≤ f.getD i 0) ∧ Q (.bl true) H
theorem ok_Lare_kept {f : Addr} {fd : FuncData} (F : Fun K "_law_are_kept" "_law_are_kept" s_Lare_kept f fd) (T : Txt K mg w aW aT es nn) : FnOk P w K mg base CX0 1 f fd ["windows", "starts"] spKept := by
  refine F.ok sc_Lare_kept (fun vs H Q E h => ?_) (fun cdv A outer s0 H vs Q E hr h => ?_)
  · obtain ⟨l, v, us, ws, f, rfl, _⟩ := h
    rfl
  · obtain ⟨l, v, us, ws, f, rfl, hl, lv, few, ⟨pf, rfl, hf⟩, fl, win, apart, q⟩ := h
    have lus : us.length = ws.length := by rw [lv.len, List.length_map]
    refine ⟨_, (pss_cons (ps_for PassesOwn.never rfl (pi_range1 (by rfl) T.b_range (pa_cons (pe_callB call_len_seq (by rfl) T.b_len (by decide +kernel) (pa_cons (pv 0) pa_nil)) pa_nil)) (pg_name (i := 2) sc_Lare_kept.nd rfl (.inl rfl)) (pss_cons (ps_if (PW.pt (pw_or (pt_not (pt_val (pe_callB call_isE (by rfl) T.b_isinstance (by decide +kernel) (pa_cons (pe_ix ix_tup (pv 1) (pv 2) (fun _ _ => rfl)) (pa_cons (pe_bltn (v := .ty "int") (by rfl) T.b_int boot_int rfl) pa_nil))))) (pw_or (pt_val (pe_callB call_isE (by rfl) T.b_isinstance (by decide +kernel) (pa_cons (pe_ix ix_tup (pv 1) (pv 2) (fun _ _ => rfl)) (pa_cons (pe_bltn (v := .ty "bool") (by rfl) T.b_bool boot_bool rfl) pa_nil)))) (pw_or1 (pt_not (pt_chain op_le op_le (pe_ix ix_tup (pe_ix ix_list (pv 0) (pv 2) (fun _ _ => rfl)) pe_int (fun _ _ => rfl)) (pe_ix ix_tup (pv 1) (pv 2) (fun _ _ => rfl)) (pe_ix ix_tup (pe_ix ix_list (pv 0) (pv 2) (fun _ _ => rfl)) pe_int (fun _ _ => rfl)))))))) (pss_one (ps_ret pe_bl)) pss_nil)
        (pss_one (ps_for PassesOwn.never rfl (pi_range1 (by rfl) T.b_range (pa_cons (pv 2) pa_nil)) (pg_name (i := 3) sc_Lare_kept.nd rfl (.inl rfl)) (pss_one (ps_if (PW.pt (pw_and (pt_cmpR op_gt (pe_op op_add (pe_ix ix_tup (pv 1) (pv 2) (fun _ _ => rfl)) (pe_ix ix_tup (pe_ix ix_list (pv 0) (pv 2) (fun _ _ => rfl)) pe_int (fun _ _ => rfl))) (pe_ix ix_tup (pv 1) (pv 3) (fun _ _ => rfl)) (nomark _)) (pw_and1 (pt_cmpR op_gt (pe_op op_add (pe_ix ix_tup (pv 1) (pv 3) (fun _ _ => rfl)) (pe_ix ix_tup (pe_ix ix_list (pv 0) (pv 3) (fun _ _ => rfl)) pe_int (fun _ _ => rfl))) (pe_ix ix_tup (pv 1) (pv 2) (fun _ _ => rfl)) (nomark _))))) (pss_one (ps_ret pe_bl)) pss_nil))))))
      (pss_one (ps_ret pe_bl))), ?_⟩
    refine ⟨_, rfl, l, _, rfl, .inl (sq_lst hl), _, rfl, by omega, by rw [lus]; omega, ?_⟩
    rw [lus]
    refine for_range (lo := 0) (n := ws.length) (fun i σ H' => ∃ (y2 y3 : Option V), σ = [some (.ref l), some (.ref pf), y2, y3] ∧ H = H') ⟨none, none, rfl, rfl⟩ (fun i σ H' hi h => ?_) (fun σ H' h => ?_)
    · obtain ⟨y2, y3, rfl, rfl⟩ := h
      obtain ⟨pj, huj, hpj⟩ := win_at lv hi
      have fj := get_map (f := f) (j := i) (by omega)
      obtain ⟨w1, w2⟩ := win i hi
      refine ⟨_, rfl, _, rfl, pf, _, _, _, rfl, rfl, sq_tup hf, zero_at fj, .int (f.getD i 0), .type "int", "int", true, rfl, .base (.base (.int _)), by rfl, true, rfl, iteF ?_⟩
      refine ⟨_, rfl, _, rfl, pf, _, _, _, rfl, rfl, sq_tup hf, zero_at fj, .int (f.getD i 0), .type "int", "bool", false, rfl, .base (.base (.int _)), by rfl, false, rfl, iteF ?_⟩
      have e0 : ∀ y2 : Option V, ([some (.ref l), some (.ref pf), y2, y3] : L2.St) = [some (.ref l), some (.ref pf), y2, y3] := fun _ => rfl
      refine ⟨_, rfl, _, rfl, l, _, _, _, rfl, rfl, sq_lst hl, zero_at huj, pj, _, 0, _, rfl, rfl, sq_tup hpj, rfl, _, rfl, _, rfl, pf, _, _, _, rfl, rfl, sq_tup hf, zero_at fj, _, _, rfl, rfl, _, rfl, ite2 (fun _ => ?_) (fun h => absurd (decide_eq_true w1) h)⟩
      refine ⟨_, rfl, _, rfl, l, _, _, _, rfl, rfl, sq_lst hl, zero_at huj, pj, _, 1, _, rfl, rfl, sq_tup hpj, rfl, _, _, rfl, rfl, _, rfl, ite2 (fun h => ?_) (fun _ => ?_)⟩
      · exact absurd h (by simp; exact w2)
      refine ⟨_, rfl, _, rfl, by omega, by omega, ?_⟩
      have hz : (0 + (i : Int)) = (i : Int) := Int.zero_add _
      refine for_range (lo := 0) (n := _) (fun k σ H' => ∃ (y3 : Option V), σ = [some (.ref l), some (.ref pf), some (.int (0 + (i : Int))), y3] ∧ H = H') ⟨y3, rfl, rfl⟩ (fun k σ H' hk h => ?_) (fun σ H' h => ?_)
      · obtain ⟨y3, rfl, rfl⟩ := h
        have hk : k < i := by omega
        obtain ⟨pk, huk, hpk⟩ := win_at lv (j := k) (by omega)
        have fk := get_map (f := f) (j := k) (by omega)
        have ap := apart i k hi (by omega) (by omega)
        refine ⟨_, rfl, _, rfl, pf, _, _, _, rfl, rfl, sq_tup hf, zero_at fj, _, rfl, _, rfl, l, _, _, _, rfl, rfl, sq_lst hl, zero_at huj, pj, _, 2, _, rfl, rfl, sq_tup hpj, rfl, _, _, rfl, rfl, _, rfl, _, rfl, pf, _, _, _, rfl, rfl, sq_tup hf, zero_at fk, _, _, rfl, rfl, _, rfl, ite2 (fun h1 => ?_) (fun _ => iteF ⟨_, rfl, rfl⟩)⟩
        have h1 : f.getD k 0 < f.getD i 0 + (ws.getD i W0).2.2.1 := of_decide_eq_true h1
        refine ⟨_, rfl, _, rfl, pf, _, _, _, rfl, rfl, sq_tup hf, zero_at fk, _, rfl, _, rfl, l, _, _, _, rfl, rfl, sq_lst hl, zero_at huk, pk, _, 2, _, rfl, rfl, sq_tup hpk, rfl, _, _, rfl, rfl, _, rfl, _, rfl, pf, _, _, _, rfl, rfl, sq_tup hf, zero_at fj, _, _, rfl, rfl, _, rfl, ite2 (fun h2 => ?_) (fun _ => ⟨_, rfl, rfl⟩)⟩
        have h2 : f.getD i 0 < f.getD k 0 + (ws.getD k W0).2.2.1 := of_decide_eq_true h2
        omega
      · obtain ⟨y3, rfl, rfl⟩ := h
        exact ⟨_, _, rfl, rfl⟩
    · obtain ⟨y2, y3, rfl, rfl⟩ := h
      exact q
end
end M63

namespace M63
open PySem PySem.Spec PyProof.Rows L2 SX Own Gd
open C8 (Cal pe_c pe_gc pe_mk Mak pss_cut)
/-! ### all sequences of jobs -/
inductive SqVs (H : Hp) : List V → List (List Nat) → Prop
  | nil : SqVs H [] []
  | cons {p : Addr} {vs : List V} {s : List Nat} {ss : List (List Nat)} : H p = some (.tup (nats s)) → SqVs H vs ss → SqVs H (.ref p :: vs) (s :: ss)
theorem SqVs.same {H H' : Hp} (x : Same H H') : ∀ {vs : List V} {ss : List (List Nat)}, SqVs H vs ss → SqVs H' vs ss
  | _, _, .nil => .nil
  | _, _, .cons h t => .cons (x _ _ h) (t.same x)
theorem SqVs.len {H : Hp} : ∀ {vs : List V} {ss : List (List Nat)}, SqVs H vs ss → vs.length = ss.length
  | _, _, .nil => rfl
  | _, _, .cons _ t => congrArg (· + 1) t.len
theorem SqVs.at_ {H : Hp} : ∀ {vs : List V} {ss : List (List Nat)} {i : Nat} {v : V}, SqVs H vs ss → vs[i]? = some v → ∃ s p, ss[i]? = some s ∧ v = .ref p ∧ H p = some (.tup (nats s))
  | _, _, 0, _, .cons h t, e => by
    cases e
    exact ⟨_, _, rfl, rfl, h⟩
  | _, _, i + 1, _, .cons h t, e => by
    obtain ⟨s, p, e1, e2⟩ := t.at_ (i := i) (by simpa using e)
    exact ⟨s, p, by simpa using e1, e2⟩
theorem SqVs.app {H : Hp} {vs us : List V} {qs rs : List (List Nat)} (h : SqVs H vs qs) (h2 : SqVs H us rs) : SqVs H (vs ++ us) (qs ++ rs) := by
  induction h with
  | nil => exact h2
  | cons a _ ih => exact .cons a ih
theorem SqVs.at_new {H : Hp} {D : Addr} {xs : List V} (hD : H D = some (.lst xs)) (o' : HO) : ∀ {vs : List V} {ss : List (List Nat)}, SqVs H vs ss → SqVs (upd H D o') vs ss
  | _, _, .nil => .nil
  | _, _, .cons h t => .cons (by rw [upd_ne (Own.ne_of h hD (fun z => by cases z))]; exact h) (t.at_new hD o')
theorem seqs_few : ∀ k, k ≤ 5 → (seqs k).length ≤ 120 := by decide +kernel
theorem nats_app (a b : List Nat) : nats a ++ nats b = nats (a ++ b) := by unfold nats; rw [List.map_append]
theorem nats_take (a : List Nat) (n : Nat) : (nats a).take n = nats (a.take n) := by unfold nats; rw [List.map_take]
theorem nats_drop (a : List Nat) (n : Nat) : (nats a).drop n = nats (a.drop n) := by unfold nats; rw [List.map_drop]
theorem slA_take {K : PySem.W.Frag} {H : Hp} {a : Addr} {xs : List V} {n : Nat} {Q : VK} (e : H a = some (.tup xs)) (k : ∀ p H', Same H H' → H' p = some (.tup (xs.take n)) → Q (.ref p) H') : rSlA K (.ref a) none (some (n : Int)) H Q := by
  refine ⟨a, xs, rfl, sq_tup e, fun z => ?_, fun z p np => ?_⟩
  · have z := z.2
    rw [HT.sIx_nat] at z
    exact k a H (Same.refl _) (by rw [List.take_of_length_le (by omega)]; exact e)
  · refine k p _ (same_upd np) ?_
    rw [upd_same]
    unfold cutV
    rw [HT.sIx_none, HT.sIx_nat]
    have : xs.take (min n xs.length) = xs.take n := by rw [List.take_eq_take_iff]; omega
    simp only [List.drop_zero, Nat.sub_zero, this]
theorem slA_drop {K : PySem.W.Frag} {H : Hp} {a : Addr} {xs : List V} {n : Nat} {Q : VK} (hn : n ≤ xs.length) (e : H a = some (.tup xs)) (k : ∀ p H', Same H H' → H' p = some (.tup (xs.drop n)) → Q (.ref p) H') : rSlA K (.ref a) (some (n : Int)) none H Q := by
  refine ⟨a, xs, rfl, sq_tup e, fun z => ?_, fun z p np => ?_⟩
  · have z := z.1
    rw [HT.sIx_nat] at z
    have : xs.drop n = xs := by
      rcases Nat.le_total n xs.length with h | h
      · rw [show n = 0 by omega, List.drop_zero]
      · rw [show xs = [] from List.eq_nil_of_length_eq_zero (by omega), List.drop_nil]
    exact k a H (Same.refl _) (by rw [this]; exact e)
  · refine k p _ (same_upd np) ?_
    rw [upd_same]
    unfold cutV
    rw [HT.sIx_none, HT.sIx_nat, Nat.min_eq_left hn, List.take_of_length_le (by rw [List.length_drop]; omega)]
theorem catA {K : PySem.W.Frag} {H : Hp} {a b : Addr} {xs ys : List V} {Q : VK} (e1 : H a = some (.tup xs)) (e2 : H b = some (.tup ys)) (l : xs.length + ys.length ≤ 1000) (k : ∀ p H', Same H H' → H' p = some (.tup (xs ++ ys)) → Q (.ref p) H') : rCatA K (.ref a) (.ref b) H Q := by
  refine ⟨a, b, xs, ys, rfl, rfl, sq_tup e1, sq_tup e2, small1001 l, fun z => ?_, fun _ z => ?_, fun _ _ p np => k p _ (same_upd np) upd_same⟩
  · exact k b H (Same.refl _) (by rw [z]; exact e2)
  · exact k a H (Same.refl _) (by rw [z, List.append_nil]; exact e1)
section
variable {P : Program} {w : World} {K : PySem.W.Frag} {mg : Str → Option Value} {base : Heap} {aW aT : Addr} {es : Array DictEntry} {nn : Nat}
abbrev s_Lsequences : Stmt := topS 45
abbrev n_Lsequences : List Str := ["many", "found", "job", "longer", "some", "at"]
theorem sc_Lsequences : FnScope n_Lsequences ["many"] (defScope s_Lsequences) := ⟨rfl, rfl, rfl, by decide +kernel, rfl, by decide +kernel, by decide +kernel⟩
def spSeqs : Sp := fun vs H Q _ => ∃ n : Nat, vs = [.int n] ∧ n ≤ 5 ∧ ∀ l us H', Same H H' → H l = none → H' l = some (.lst us) → SqVs H' us (seqs n) → Q (.ref l) H'
theorem ok_Lsequences {f : Addr} {fd : FuncData} (F : Fun K "_law_sequences" "_law_sequences" s_Lsequences f fd) (T : Txt K mg w aW aT es nn) : FnOk P w K mg base CX0 1 f fd ["many"] spSeqs := by
  refine F.ok sc_Lsequences (fun vs H Q E h => ?_) (fun cdv A outer s0 H vs Q E hr h => ?_)
  · obtain ⟨n, rfl, _⟩ := h
    rfl
  · obtain ⟨n, rfl, n5, q⟩ := h
    refine ⟨_, (pss_cons (ps_set (i := 1) sc_Lsequences.nd rfl (.inl rfl) (pe_lst (pa_cons (pe_tup pa_nil) pa_nil)))
      (pss_cons (ps_for PassesOwn.never rfl (pi_range1 (by rfl) T.b_range (pa_cons (pv 0) pa_nil)) (pg_name (i := 2) sc_Lsequences.nd rfl (.inr rfl)) (pss_cons (ps_set (i := 3) sc_Lsequences.nd rfl (.inl rfl) (pe_lst pa_nil))
        (pss_cons (ps_for PassesOwn.never rfl (pi_list (pv 1)) (pg_name (i := 4) sc_Lsequences.nd rfl (.inr rfl)) (pss_one (ps_set (i := 3) sc_Lsequences.nd rfl (.inl rfl) (pe_op op_cat (pv 3) (pe_lc (own := [("at", 5)]) rfl sc_Lsequences.nd (pi_range1 (by rfl) T.b_range (pa_cons (pe_op op_add (pv 2) pe_int) pa_nil)) (blkOk_by (N := n_Lsequences) (sc := defScope s_Lsequences) (by decide +kernel)) (fun _ _ _ _ _ => (pg_name (i := 5) sc_Lsequences.nd rfl (.inl rfl))) (fun _ _ _ _ _ => pts_nil) (fun _ _ _ _ _ => (pe_op (r := rCatA K) op_catA (pe_op (r := rCatA K) op_catA (pe_slice (r := rSlA K) sl_tupA (pv 4) po_none (po_some (pv 5))) (pe_tup (pa_cons (pv 2) pa_nil))) (pe_slice (r := rSlA K) sl_tupA (pv 4) (po_some (pv 5)) po_none))))))))
        (pss_one (ps_set (i := 1) sc_Lsequences.nd rfl (.inl rfl) (pv 3))))))
      (pss_one (ps_ret (pv 1))))), ?_⟩
    refine ⟨nil_ok, fun e0 ne0 => ⟨len1, fun l0 nl0 => ?_⟩⟩
    have k1 := same_upd (o := .tup []) ne0
    have k2 := same_upd (o := .lst [.ref e0]) nl0
    refine ⟨_, rfl, _, rfl, by omega, by omega, ?_⟩
    refine for_range (lo := 0) (n := n) (fun k σ H' => ∃ (l : Addr) (us : List V) (y2 y3 y4 : Option V), σ = [some (.int (n : Int)), some (.ref l), y2, y3, y4, none] ∧ Same H H' ∧ H l = none ∧ H' l = some (.lst us) ∧ SqVs H' us (seqs k))
      ⟨l0, [.ref e0], none, none, none, rfl, k1.trans k2, k1.free nl0, upd_same, .cons (k2 _ _ upd_same) .nil⟩ (fun k σ H' hk h => ?_) (fun σ H' h => ?_)
    · obtain ⟨l, us, y2, y3, y4, rfl, sm, nl, hl, sv⟩ := h
      refine ⟨nil_ok, fun l3 nl3 => ?_⟩
      have k3 := same_upd (o := .lst []) nl3
      have few := seqs_few k (by omega)
      have lus := sv.len
      refine ⟨_, rfl, l, rfl, ⟨_, sq_lst (k3 _ _ hl)⟩, for_list (K := K) (a := l) (xs := us) (fun i σ H2 => ∃ (l3 : Addr) (us3 : List V) (y4 : Option V), σ = [some (.int (n : Int)), some (.ref l), some (.int (0 + (k : Int))), some (.ref l3), y4, none] ∧ Same H' H2 ∧ H' l3 = none ∧ H2 l3 = some (.lst us3) ∧ us3.length = i * (k + 1) ∧ SqVs H2 us3 (((seqs k).take i).flatMap fun s => (List.range (k + 1)).map (ins s k)))
        ⟨l3, [], y4, rfl, k3, nl3, upd_same, by simp, .nil⟩ (fun i σ H2 _ h => ?_) (fun i x σ H2 hx h => ?_) (fun σ H2 h => ?_)⟩
      · obtain ⟨_, _, _, rfl, s2, _⟩ := h
        exact sq_lst (s2 _ _ hl)
      · obtain ⟨l3, us3, y4, rfl, s2, nl3', hl3, l3n, sv3⟩ := h
        obtain ⟨s, ps, hs, rfl, hps⟩ := sv.at_ hx
        have pm := seqs_perm (List.mem_of_getElem? hs)
        have ls := pm.len
        have li : i < (seqs k).length := (List.getElem?_eq_some_iff.mp hs).1
        have hps2 := s2 _ _ hps
        refine ⟨_, rfl, _, rfl, _, _, rfl, rfl, _, rfl, by omega, by omega, fun D nD => ?_⟩
        rw [show (0 + (k : Int) + 1) = ((k + 1 : Nat) : Int) by omega]
        refine lc_range (lo := 0) (n := k + 1) (fun a H3 => ∃ vs, H3 D = some (.lst vs) ∧ SqVs H3 vs ((List.range a).map (ins s k)) ∧ Same H2 H3) ⟨[], upd_same, .nil, same_upd nD⟩ ?_ ?_
        · rintro a H3 ha ⟨vs, hD, fv, s3⟩
          have za : (0 + (a : Int)) = (a : Int) := Int.zero_add _
          have zk : (0 + (k : Int)) = (k : Int) := Int.zero_add _
          refine ⟨rfl, _, rfl, _, rfl, _, rfl, ?_⟩
          show rSlA K (.ref ps) none (some (0 + (a : Int))) H3 _
          rw [za, zk]
          have hps3 := s3 _ _ hps2
          have lnat : (nats s).length = k := by unfold nats; rw [List.length_map, ls]
          refine slA_take hps3 fun p1 H4 s4 e4 => ?_
          refine ⟨_, rfl, len1, fun t nt => ?_⟩
          have k5 := same_upd (o := .tup [.int (k : Int)]) nt
          have e5 : upd H4 t (.tup [.int (k : Int)]) t = some (.tup (nats [k])) := upd_same
          generalize upd H4 t (.tup [.int (k : Int)]) = H5 at *
          show rCatA K (.ref p1) (.ref t) H5 _
          refine catA (k5 _ _ e4) e5 (by rw [List.length_take]; show _ + 1 ≤ 1000; omega) fun p2 H6 s6 e6 => ?_
          have s26 := (s4.trans k5).trans s6
          refine ⟨_, rfl, _, rfl, _, rfl, ?_⟩
          unfold tNoPart
          show rSlA K (.ref ps) (some (a : Int)) none H6 _
          refine slA_drop (by omega) (s26 _ _ hps3) fun p3 H7 s7 e7 => ?_
          show rCatA K (.ref p2) (.ref p3) H7 _
          refine catA (s7 _ _ e6) e7 (by rw [List.length_append, List.length_take, List.length_drop]; show _ + 1 + _ ≤ 1000; omega) fun p4 H8 s8 e8 => ?_
          have s38 := (s26.trans s7).trans s8
          rw [nats_take, nats_drop, nats_app, nats_app] at e8
          refine ⟨_, s38 _ _ hD, (by rw [fv.len, List.length_map, List.length_range]; exact small1000 (by omega)), vs ++ [.ref p4], upd_same, ?_, same_at (s3.trans s38) nD⟩
          rw [List.range_succ, List.map_append]
          exact ((fv.same s38).app (.cons e8 .nil)).at_new (s38 _ _ hD) _
        · rintro H3 ⟨vs, hD, fv, s3⟩
          have lvs := fv.len
          rw [List.length_map, List.length_range] at lvs
          have l3' := s3 _ _ hl3
          have ib : i * (k + 1) ≤ 120 * 6 := Nat.mul_le_mul (by omega) (by omega)
          refine ⟨l3, D, _, _, rfl, rfl, l3', hD, by rw [l3n, lvs]; exact small1001 (by omega), fun l4 nl4 => ?_⟩
          have k4 := same_upd (o := .lst (us3 ++ vs)) nl4
          have s24 := s3.trans k4
          refine ⟨l4, us3 ++ vs, _, rfl, s2.trans s24, (s2.trans s3).free nl4, upd_same, ?_, ?_⟩
          · rw [List.length_append, l3n, lvs, Nat.add_mul, Nat.one_mul]
          · rw [take_one hs, List.flatMap_append]
            refine (sv3.same s24).app ?_
            rw [List.flatMap_singleton]
            exact fv.same k4
      · obtain ⟨l3, us3, y4, rfl, s2, nl3', hl3, l3n, sv3⟩ := h
        rw [lus, List.take_length] at sv3
        exact ⟨_, rfl, l3, us3, _, _, _, rfl, sm.trans s2, sm.free nl3', hl3, sv3⟩
    · obtain ⟨l, us, y2, y3, y4, rfl, sm, nl, hl, sv⟩ := h
      exact ⟨_, rfl, q l us _ sm nl hl sv⟩
end
end M63

namespace M63
open PySem PySem.Spec PyProof.Rows L2 SX Own Gd
open C8 (Cal pe_c pe_gc pe_mk Mak pss_cut)
/-! ### the table of ends -/
def tabL (ws : List Win) (n : Nat) (t0 : Int) : Nat → List (Option (Int × Nat))
  | 0 => [some (t0, 0)]
  | k + 1 => tabL ws n t0 k ++ [scan ws (fun m => (tabL ws n t0 k).getD m none) (k + 1) n]
def Tf (ws : List Win) (n : Nat) (t0 : Int) (m : Nat) : Option (Int × Nat) := (tabL ws n t0 m).getD m none
theorem tabL_len (ws : List Win) (n : Nat) (t0 : Int) : ∀ k, (tabL ws n t0 k).length = k + 1
  | 0 => rfl
  | k + 1 => by
    show (tabL ws n t0 k ++ [_]).length = _
    rw [List.length_append, tabL_len ws n t0 k]; rfl
theorem tabL_get (ws : List Win) (n : Nat) (t0 : Int) : ∀ k m, m ≤ k → (tabL ws n t0 k).getD m none = Tf ws n t0 m
  | 0, m, h => by
    have : m = 0 := by omega
    subst this; rfl
  | k + 1, m, h => by
    by_cases e : m = k + 1
    · subst e; rfl
    · rw [← tabL_get ws n t0 k m (by omega)]
      show (tabL ws n t0 k ++ [_]).getD m none = _
      rw [List.getD_eq_getElem?_getD, List.getD_eq_getElem?_getD, List.getElem?_append_left (by rw [tabL_len]; omega)]
theorem scan_congr {ws : List Win} {T T' : Nat → Option (Int × Nat)} {d : Nat} (h : ∀ m, m < d → T m = T' m) : ∀ n, scan ws T d n = scan ws T' d n
  | 0 => rfl
  | k + 1 => by
    unfold scan
    rw [scan_congr h k]
    by_cases hb : d.testBit k = true
    · rw [if_pos hb, if_pos hb, h _ (bit_lt hb)]
    · rw [if_neg hb, if_neg hb]
theorem Tf_zero (ws : List Win) (n : Nat) (t0 : Int) : Tf ws n t0 0 = some (t0, 0) := rfl
theorem Tf_at (ws : List Win) (n : Nat) (t0 : Int) (d : Nat) (h : 0 < d) : Tf ws n t0 d = scan ws (Tf ws n t0) d n := by
  obtain ⟨k, rfl⟩ : ∃ k, d = k + 1 := ⟨d - 1, by omega⟩
  show (tabL ws n t0 k ++ [scan ws (fun m => (tabL ws n t0 k).getD m none) (k + 1) n]).getD (k + 1) none = _
  rw [List.getD_eq_getElem?_getD, List.getElem?_append_right (by rw [tabL_len]; omega), tabL_len, Nat.sub_self]
  exact scan_congr (fun m hm => tabL_get ws n t0 k m (by omega)) n
theorem Tf_tab (ws : List Win) (n : Nat) (t0 : Int) (m : Nat) : Tab ws n t0 (Tf ws n t0) m := ⟨⟨0, rfl⟩, fun d h _ => Tf_at ws n t0 d h⟩
/-! ### bits as integers -/
theorem bandN (a b : Nat) : Builtin.bitAnd (a : Int) (b : Int) = ((a &&& b : Nat) : Int) := by
  unfold Builtin.bitAnd
  rw [decide_eq_true (Int.natCast_nonneg a), decide_eq_true (Int.natCast_nonneg b)]; rfl
theorem bxorN (a b : Nat) : Builtin.bitXor (a : Int) (b : Int) = (a : Int) + b - 2 * ((a &&& b : Nat) : Int) := by
  rw [bitXor_and, bandN]
theorem and_pow {d j : Nat} : d &&& 2 ^ j = if d.testBit j = true then 2 ^ j else 0 := by
  refine Nat.eq_of_testBit_eq fun i => ?_
  rw [Nat.testBit_and, Nat.testBit_two_pow]
  by_cases e : j = i
  · subst e
    by_cases h : d.testBit j = true
    · rw [if_pos h, h, Nat.testBit_two_pow]; simp
    · rw [if_neg h, Bool.not_eq_true] at *
      rw [h, Nat.zero_testBit]; rfl
  · rw [decide_eq_false e, Bool.and_false]
    split
    · rw [Nat.testBit_two_pow, decide_eq_false e]
    · rw [Nat.zero_testBit]
theorem xor_pow : ∀ {j d : Nat}, d.testBit j = true → (d ^^^ 2 ^ j) + 2 ^ j = d
  | 0, d, h => by
    have h1 : d % 2 = 1 := by rw [Nat.testBit_zero] at h; exact of_decide_eq_true h
    have a : (d ^^^ 2 ^ 0) / 2 = d / 2 := by rw [Nat.xor_div_two]; exact Nat.xor_zero _
    have b : (d ^^^ 2 ^ 0) % 2 = 0 := by
      have e : (d ^^^ 2 ^ 0).testBit 0 = false := by rw [Nat.testBit_xor, h]; rfl
      rw [Nat.testBit_zero] at e
      have := of_decide_eq_false e
      omega
    show _ + 1 = d
    omega
  | j + 1, d, h => by
    have h2 := h
    rw [Nat.testBit_succ] at h
    have ih := xor_pow (j := j) h
    have a : (d ^^^ 2 ^ (j + 1)) / 2 = d / 2 ^^^ 2 ^ j := by rw [Nat.xor_div_two, Nat.pow_succ, Nat.mul_div_cancel _ (by decide)]
    have b : (d ^^^ 2 ^ (j + 1)) % 2 = d % 2 := by
      have e : (d ^^^ 2 ^ (j + 1)).testBit 0 = d.testBit 0 := by rw [bit_off h2]; simp
      rw [Nat.testBit_zero, Nat.testBit_zero] at e
      have e := decide_eq_decide.mp e
      omega
    rw [← a] at ih
    generalize d ^^^ 2 ^ (j + 1) = x at *
    have p : 2 ^ (j + 1) = 2 ^ j * 2 := Nat.pow_succ ..
    omega
theorem xorI {d j : Nat} (h : d.testBit j = true) : Builtin.bitXor (d : Int) ((2 ^ j : Nat) : Int) = ((d ^^^ 2 ^ j : Nat) : Int) := by
  rw [bxorN, and_pow, if_pos h]
  have := xor_pow h
  omega
theorem shl1 (j : Nat) : (1 : Int) * 2 ^ ((j : Int)).toNat = ((2 ^ j : Nat) : Int) := by
  rw [Int.one_mul, Int.toNat_natCast, Int.natCast_pow]; rfl
/-- the dict of ends of the lots below m -/
def EndV (H : Hp) (v : V) (m : Nat) (x : Int × Nat) : Prop := ∃ p, v = .ref p ∧ H p = some (.tup [.int x.1, if m = 0 then .non else .int (x.2 : Nat)])
structure DcOk (H : Hp) (kvs : List (Key × V)) (T : Nat → Option (Int × Nat)) (d : Nat) : Prop where
  no : ∀ m, m < d → T m = none → valV kvs (.inl (m : Int)) = none
  yes : ∀ m x, m < d → T m = some x → ∃ v, valV kvs (.inl (m : Int)) = some v ∧ EndV H v m x
  len : kvs.length ≤ d
theorem DcOk.same {H H' : Hp} {kvs : List (Key × V)} {T : Nat → Option (Int × Nat)} {d : Nat} (h : DcOk H kvs T d) (s : Same H H') : DcOk H' kvs T d := by
  refine ⟨h.no, fun m x hm hx => ?_, h.len⟩
  obtain ⟨v, e, p, e2, e3⟩ := h.yes m x hm hx
  exact ⟨v, e, p, e2, s _ _ e3⟩
end M63

namespace M63
open PySem PySem.Spec PyProof.Rows L2 SX Own Gd
open C8 (Cal pe_c pe_gc pe_mk Mak pss_cut)
theorem nats_rev (l : List Nat) : (nats l).reverse = nats l.reverse := by unfold nats; rw [List.map_reverse]
theorem goT_of_end {ws : List Win} {s : List Nat} {f : List Int} {t e : Int} (h : endT ws s t = some e) : ∃ f', goT ws s f t = some (f', e) := by
  have g := goT_end ws s f t
  rw [h] at g
  cases hg : goT ws s f t with
  | none => rw [hg] at g; cases g
  | some x =>
    rw [hg] at g
    obtain ⟨f', e'⟩ := x
    have g : some e' = some e := g
    cases g
    exact ⟨f', rfl⟩
section
variable {P : Program} {w : World} {K : PySem.W.Frag} {mg : Str → Option Value} {base : Heap} {aW aT : Addr} {es : Array DictEntry} {nn : Nat}
abbrev s_end_and_starts : Stmt := topS 11
abbrev n_end_and_starts : List Str := ["task", "k", "box", "ends", "done", "end", "sequence", "job"]
theorem sc_end_and_starts : FnScope n_end_and_starts ["task", "k", "box", "ends"] (defScope s_end_and_starts) := ⟨rfl, rfl, rfl, by decide +kernel, rfl, by decide +kernel, by decide +kernel⟩
def spEnd (C : Addr) : Sp := fun vs H Q _ => ∃ (v b : V) (k : Nat) (ul : List Unk) (wl : List Wish) (goal : List Int) (js box : List (List Int)) (pe : Addr) (kvs : List (Key × V)) (t0 : Int), vs = [v, .int k, b, .ref pe] ∧ TaskV C H v ul wl goal ∧ wl[k]? = some (.bench js) ∧ JobsOk ul.length 2 js ∧ JV H b box ∧ BoxOk ul.length box ∧
  js.length ≤ 10 ∧ H pe = some (.dK kvs) ∧ DcOk H kvs (Tf (js.map (winOf box)) js.length t0) (2 ^ js.length) ∧ (∀ w ∈ js.map (winOf box), t0 ≤ w.1) ∧ (Tf (js.map (winOf box)) js.length t0 (2 ^ js.length - 1) = none → ∀ H', Same H H' → Q .non H') ∧
  ∀ x s f p u H', Tf (js.map (winOf box)) js.length t0 (2 ^ js.length - 1) = some x → Perm js.length s → goT (js.map (winOf box)) s (List.replicate js.length 0) t0 = some (f, x.1) → Same H H' → H' p = some (.tup [.int x.1, u]) → LV H' u f → Q (.ref p) H'
theorem ok_end_and_starts {f C : Addr} {fd : FuncData} (F : Fun K "_end_and_starts" "_end_and_starts" s_end_and_starts f fd) (T : Txt K mg w aW aT es nn) (cc : CC K C) (c_starts_in_sequence : Cal P w K mg base 3 "starts_in_sequence" (spStarts C) []) : FnOk P w K mg base CX0 4 f fd ["task", "k", "box", "ends"] (spEnd C) := by
  refine F.ok sc_end_and_starts (fun vs H Q E h => ?_) (fun cdv A outer s0 H vs Q E hr h => ?_)
  · obtain ⟨v, b, k, ul, wl, goal, js, box, pe, kvs, t0, rfl, _⟩ := h
    rfl
  · obtain ⟨v, b, k, ul, wl, goal, js, box, pe, kvs, t0, rfl, tv, hk, jo, bv, bo, l10, hpe, dc, h0, q1, q2⟩ := h
    obtain ⟨x, dx, pu, pw, pg, us, ws', rfl, hx, hpu, uv, hpw, wv, hpg⟩ := id tv
    have lk : k < ws'.length := by rw [wv.len]; exact (List.getElem?_eq_some_iff.mp hk).1
    have hwk : ws'[k]? = some ws'[k] := List.getElem?_eq_getElem lk
    obtain ⟨wk, hwk', wvk⟩ := wv.at_ hwk
    rw [hk] at hwk'
    cases hwk'
    obtain ⟨pk, uk, ek, hpk, pj, ju, rfl, hpj, lvj⟩ := wvk
    rw [ek] at hwk
    have two := jo.two
    have lw : (js.map (winOf box)).length = js.length := List.length_map ..
    have dom : ∀ w ∈ js.map (winOf box), t0 ≤ w.1 := h0
    refine ⟨_, (pss_cons (ps_set (i := 4) sc_end_and_starts.nd rfl (.inl rfl) (pe_op op_sub (pe_op op_shl pe_int (pe_callB call_len_seq (by rfl) T.b_len (by decide +kernel) (pa_cons (pe_ix ix_tup (pe_ix ix_tup (pe_fld (pv 0) (by rfl)) (pv 1) (fun _ _ => rfl)) pe_int (fun _ _ => rfl)) pa_nil))) pe_int))
      (pss_cons (ps_if (pt_cmpR (op_notInDc hr.units1) (pv 4) (pv 3) (by rfl)) (pss_one (ps_ret pe_non)) pss_nil)
      (pss_cons (ps_set (i := 5) sc_end_and_starts.nd rfl (.inl rfl) (pe_ix ix_tup (pe_dget hr.units1 (pv 3) (pv 4) (fun _ _ => rfl)) pe_int (fun _ _ => rfl)))
      (pss_cons (ps_set (i := 6) sc_end_and_starts.nd rfl (.inl rfl) (pe_lst pa_nil))
      (pss_cons (ps_while PassesOwn.never (pt_cmpR op_ne (pv 4) pe_int (nomark _)) (pss_cons (ps_set (i := 7) sc_end_and_starts.nd rfl (.inl rfl) (pe_ix ix_tup (pe_dget hr.units1 (pv 3) (pv 4) (fun _ _ => rfl)) pe_int (fun _ _ => rfl)))
        (pss_cons (ps_expr (pe_bm PySem.F.plainAttrs_list PySem.F.slot_list_append PySem.F.type_list_append mt_append (pv 6) (pa_cons (pv 7) pa_nil)))
        (pss_one (ps_set (i := 4) sc_end_and_starts.nd rfl (.inl rfl) (pe_op op_xor (pv 4) (pe_op op_shl pe_int (pv 7))))))))
      (pss_one (ps_ret (pe_tup (pa_cons (pv 5) (pa_cons (pe_c c_starts_in_sequence hr (by decide) (by rfl) (pa_cons (pv 0) (pa_cons (pv 1) (pa_cons (pv 2) (pa_cons (RT.pe_tupRev rfl (by rfl) T.b_tuple (by rfl) T.b_reversed (pv 6)) pa_nil))))) pa_nil)))))))))), ?_⟩
    refine ⟨_, rfl, x, C, dx, _, _, rfl, hx, cc.cl, cc.nw, lk_w _ _ _, _, rfl, pw, _, _, _, rfl, rfl, sq_tup hpw, atI_nat hwk, pk, _, 1, _, rfl, rfl, sq_tup hpk, rfl, pj, _, rfl, .inr (sq_tup hpj), _, _, rfl, rfl, ⟨by omega, by rw [lvj.len]; omega, by decide⟩, _, _, rfl, rfl, ?_⟩
    rw [lvj.len, shl1]
    have fe : (fun i j : Int => V.int (i - j)) ((2 ^ js.length : Nat) : Int) 1 = V.int ((2 ^ js.length - 1 : Nat) : Int) := by
      have := Nat.pow_pos (n := js.length) (show 0 < 2 by decide)
      show V.int (((2 ^ js.length : Nat) : Int) - 1) = _
      congr 1; omega
    rw [fe]
    have p0 := Nat.pow_pos (n := js.length) (show 0 < 2 by decide)
    have p10 : 2 ^ js.length ≤ 2 ^ 10 := Nat.pow_le_pow_right (by decide) l10
    have e10 : (2 : Nat) ^ 10 = 1024 := by decide
    have flt : 2 ^ js.length - 1 < 2 ^ js.length := by omega
    have fbit : ∀ j, (2 ^ js.length - 1).testBit j = true ↔ j < js.length := fun j => by rw [Nat.testBit_two_pow_sub_one]; simp
    have get : ∀ {H' : Hp}, Same H H' → ∀ m x, m < 2 ^ js.length → Tf (js.map (winOf box)) js.length t0 m = some x → ∃ p, DGet H' pe (.int (m : Int)) (some (.ref p)) ∧ H' p = some (.tup [.int x.1, if m = 0 then .non else .int (x.2 : Nat)]) := fun {H'} sm m x hm hx => by
      obtain ⟨v, e, p, rfl, e3⟩ := dc.yes m x hm hx
      refine ⟨p, ?_, sm _ _ e3⟩
      have g : DGet H' pe (.int (m : Int)) (valV kvs (.inl (m : Int))) := DGet.k (k := .inl (m : Int)) (sm _ _ hpe)
      rw [e] at g
      exact g
    generalize hws : js.map (winOf box) = ws at *
    generalize hfull : 2 ^ js.length - 1 = full at *
    have tab := Tf_tab ws js.length t0 (2 ^ js.length)
    cases hT : Tf ws js.length t0 full with
    | none =>
      have g : DGet H pe (.int (full : Int)) (valV kvs (.inl (full : Int))) := DGet.k (k := .inl (full : Int)) hpe
      rw [dc.no full flt hT] at g
      exact ⟨_, rfl, _, rfl, pe, _, rfl, g, _, rfl, iteT (q1 hT _ (Same.refl _))⟩
    | some x0 =>
    obtain ⟨p0', g0, hp0⟩ := get (Same.refl H) full x0 flt hT
    refine ⟨_, rfl, _, rfl, pe, _, rfl, g0, _, rfl, iteF ?_⟩
    refine ⟨_, rfl, _, rfl, pe, _, rfl, g0, p0', _, 0, _, rfl, rfl, sq_tup hp0, rfl, ?_⟩
    refine ⟨nil_ok, fun D nD => ?_⟩
    refine ⟨fun m σ H' => ∃ (d : Nat) (l : List Nat) (y7 : Option V) (z : Int × Nat), σ = [some (.ref x), some (.int (k : Int)), some b, some (.ref pe), some (.int (d : Int)), some (.int x0.1), some (.ref D), y7] ∧ Same H H' ∧ H' D = some (.lst (nats l)) ∧ Tf ws js.length t0 d = some z ∧ endT ws l.reverse z.1 = some x0.1 ∧ l.Nodup ∧
        (∀ j, j ∈ l ↔ full.testBit j = true ∧ d.testBit j = false) ∧ (∀ j, d.testBit j = true → full.testBit j = true) ∧ d < 2 ^ js.length ∧ l.length + d ≤ full ∧ m = d,
      ⟨_, full, [], none, x0, rfl, same_upd nD, upd_same, hT, rfl, by simp, fun j => by simp, fun j h => h, flt, by simp, rfl⟩, fun m σ H' hW => ?_⟩
    obtain ⟨d, l, y7, z, rfl, sm, hD, hz, en, nd, mem, sub, dlt, ll, em⟩ := hW
    have em := em.symm
    subst em
    refine ⟨_, rfl, rfl, _, rfl, ite2 (fun hd => ?_) (fun hd => ?_)⟩
    · have hd : d ≠ 0 := fun e => by subst e; simp at hd
      have hs := Tf_at ws js.length t0 d (by omega)
      rw [hz] at hs
      obtain ⟨j1, j2, y, hy, st, ze⟩ := scan_some (e := z.1) (j := z.2) hs.symm
      obtain ⟨pz, gz, hpz⟩ := get sm d z dlt hz
      rw [if_neg hd] at hpz
      refine ⟨fun σ' H' => ∃ m', m' < d ∧ _, fun _ _ z => z, ?_⟩
      refine ⟨_, rfl, _, rfl, pe, _, rfl, gz, pz, _, 1, _, rfl, rfl, sq_tup hpz, rfl, ?_⟩
      have lt := bit_lt j2
      have dle : d ≤ 1024 := by omega
      refine ⟨_, rfl, .inl ⟨rfl, _, sq_lst hD⟩, _, rfl, D, _, _, rfl, rfl, hD, (by unfold nats; rw [List.length_map]; exact Nat.lt_of_le_of_lt (show l.length ≤ 1024 by omega) (by rw [sizeLine_eq]; decide)), ?_⟩
      refine ⟨_, rfl, _, rfl, _, _, rfl, rfl, ⟨by omega, by omega, by decide⟩, _, _, rfl, rfl, ?_⟩
      rw [shl1, show (fun i j : Int => V.int (Builtin.bitXor i j)) (d : Int) ((2 ^ z.2 : Nat) : Int) = V.int ((d ^^^ 2 ^ z.2 : Nat) : Int) from congrArg V.int (xorI j2)]
      have nin : z.2 ∉ l := fun h => by
        have := ((mem z.2).mp h).2
        rw [j2] at this; cases this
      refine ⟨d ^^^ 2 ^ z.2, lt, d ^^^ 2 ^ z.2, l ++ [z.2], _, y, rfl, same_at sm nD, ?_, hy, ?_, ?_, fun j => ?_, fun j hj => ?_, by omega, ?_, rfl⟩
      · rw [upd_same]
        unfold nats
        rw [List.map_append]; rfl
      · rw [List.reverse_append]
        show endT ws (z.2 :: l.reverse) y.1 = _
        unfold endT
        rw [if_neg (by omega), ← ze]; exact en
      · exact List.nodup_append.mpr ⟨nd, by simp, fun a ha b hb => by rw [List.mem_singleton.mp hb]; exact fun e => nin (e ▸ ha)⟩
      · rw [List.mem_append, List.mem_singleton, mem, bit_off j2]
        constructor
        · rintro (h | h)
          · exact ⟨h.1, by rw [h.2, Bool.and_false]⟩
          · subst h
            exact ⟨sub _ j2, by simp⟩
        · rintro ⟨h1, h2⟩
          by_cases e : j = z.2
          · exact .inr e
          · rw [decide_eq_true e, Bool.true_and] at h2
            exact .inl ⟨h1, h2⟩
      · rw [bit_off j2, Bool.and_eq_true] at hj
        exact sub j hj.2
      · rw [List.length_append]
        show l.length + 1 + _ ≤ full
        omega
    · have hd : d = 0 := Classical.byContradiction fun e => hd (by simp; omega)
      subst hd
      have z0 : z = (t0, 0) := by
        rw [Tf_zero] at hz
        exact (Option.some.inj hz).symm
      subst z0
      have o : Perm js.length l.reverse := by
        refine ⟨(List.reverse_perm l).nodup_iff.mpr nd, fun j => ?_⟩
        rw [List.mem_reverse, mem, fbit, Nat.zero_testBit]
        exact ⟨fun h => h.1, fun h => ⟨h, rfl⟩⟩
      obtain ⟨f', hf'⟩ := goT_of_end (f := List.replicate js.length 0) en
      refine ⟨_, rfl, _, rfl, _, rfl, _, rfl, _, rfl, D, _, rfl, sq_lst hD, fun t nt => ?_⟩
      rw [nats_rev]
      have k2 := same_upd (o := .tup (nats l.reverse)) nt
      have et : upd H' t (.tup (nats l.reverse)) t = some (.tup (nats l.reverse)) := upd_same
      generalize upd H' t (.tup (nats l.reverse)) = H2 at *
      have s2 := sm.trans k2
      subst hws
      refine ⟨_, b, k, ul, wl, goal, js, box, t, l.reverse, t0, rfl, tv.same s2, hk, jo, bv.same s2, bo, et, fun j hj => (o.mem j).mp hj, h0, fun e => ?_, fun f2 t' u H3 e s3 lf => ?_⟩
      · rw [hf'] at e; cases e
      · rw [hf'] at e
        cases e
        refine ⟨len2, fun p np => ?_⟩
        have k4 := same_upd (o := .tup [.int x0.1, u]) np
        exact q2 x0 l.reverse f' p u _ hT o hf' ((s2.trans s3).trans k4) upd_same (lf.same k4)
end
end M63

namespace M63
open PySem PySem.Spec PyProof.Rows L2 SX Own Gd
open C8 (Cal pe_c pe_gc pe_mk Mak pss_cut)
def lowest : List Win → Int
  | [] => 0
  | [w] => w.1
  | w :: v :: ws => if w.1 < lowest (v :: ws) then w.1 else lowest (v :: ws)
theorem lowest_ok : ∀ {ws : List Win}, ws ≠ [] → lowest ws ∈ ws.map (·.1) ∧ ∀ w ∈ ws, lowest ws ≤ w.1
  | [], h => absurd rfl h
  | [w], _ => ⟨List.mem_cons_self .., fun x hx => by rw [List.mem_singleton.mp hx]; exact Int.le_refl _⟩
  | w :: v :: ws, _ => by
    obtain ⟨h1, h2⟩ := lowest_ok (ws := v :: ws) (by simp)
    unfold lowest
    split
    · rename_i c
      refine ⟨List.mem_cons_self .., fun x hx => ?_⟩
      rcases List.mem_cons.mp hx with rfl | hx
      · exact Int.le_refl _
      · have := h2 x hx; omega
    · rename_i c
      refine ⟨List.mem_cons_of_mem _ h1, fun x hx => ?_⟩
      rcases List.mem_cons.mp hx with rfl | hx
      · omega
      · exact h2 x hx
theorem lowest_is {ws : List Win} {m : Int} (n : ws ≠ []) (h1 : m ∈ ws.map (·.1)) (h2 : ∀ y ∈ ws.map (·.1), m ≤ y) : m = lowest ws := by
  obtain ⟨a, b⟩ := lowest_ok n
  have := h2 _ a
  obtain ⟨w, hw, rfl⟩ := List.mem_map.mp h1
  have := b w hw
  omega
theorem key_inj {a b : Nat} : (Sum.inl (a : Int) : Key) = .inl (b : Int) ↔ a = b := ⟨fun h => by have := Sum.inl.inj h; omega, fun h => by rw [h]⟩
theorem DcOk.skip {H : Hp} {kvs : List (Key × V)} {T : Nat → Option (Int × Nat)} {d : Nat} (h : DcOk H kvs T d) (n : valV kvs (.inl (d : Int)) = none) (e : T d = none) : DcOk H kvs T (d + 1) := by
  refine ⟨fun m hm hx => ?_, fun m x hm hx => ?_, Nat.le_succ_of_le h.len⟩
  · by_cases c : m = d
    · rw [c]; exact n
    · exact h.no m (by omega) hx
  · by_cases c : m = d
    · rw [c, e] at hx; cases hx
    · exact h.yes m x (by omega) hx
theorem put_len (kvs : List (Key × V)) (k : Key) (v : V) : (putK kvs k v).length ≤ kvs.length + 1 := by
  unfold putK
  split
  · rw [List.length_map]; omega
  · rw [List.length_append]; exact Nat.le_refl _
/-- the best last job so far, as the program keeps it -/
def BestV (H : Hp) (v : V) (b : Option (Int × Nat)) : Prop := match b with
  | none => v = .non
  | some x => ∃ p, v = .ref p ∧ H p = some (.tup [.int x.1, .int (x.2 : Nat)])
theorem BestV.same {H H' : Hp} {v : V} : ∀ {b : Option (Int × Nat)}, BestV H v b → Same H H' → BestV H' v b
  | none, h, _ => h
  | some x, ⟨p, e, f⟩, s => ⟨p, e, s _ _ f⟩
theorem DcOk.put {H H' : Hp} {pe p : Addr} {kvs : List (Key × V)} {T : Nat → Option (Int × Nat)} {d : Nat} {x : Int × Nat} (h : DcOk H kvs T d) (hd : d ≠ 0) (hT : T d = some x) (hp : H p = some (.tup [.int x.1, .int (x.2 : Nat)])) (hpe : H pe = some (.dK kvs)) (hs : ∀ q u, q ≠ pe → H q = some u → H' q = some u) : DcOk H' (putK kvs (.inl (d : Int)) (.ref p)) T (d + 1) := by
  refine ⟨fun m hm hx => ?_, fun m y hm hx => ?_, ?_⟩
  · have ne : m ≠ d := fun e => by rw [e, hT] at hx; cases hx
    rw [valV_put, if_neg (fun z => ne (key_inj.mp z))]
    exact h.no m (by omega) hx
  · by_cases e : m = d
    · subst e
      rw [hT] at hx
      cases hx
      rw [valV_put, if_pos rfl]
      refine ⟨_, rfl, p, rfl, ?_⟩
      rw [if_neg hd]
      exact hs _ _ (fun z => by rw [z, hpe] at hp; cases hp) hp
    · rw [valV_put, if_neg (fun z => e (key_inj.mp z))]
      obtain ⟨v, e1, q, e2, e3⟩ := h.yes m y (by omega) hx
      exact ⟨v, e1, q, e2, hs _ _ (fun z => by rw [z, hpe] at e3; cases e3) e3⟩
  · exact Nat.le_trans (put_len ..) (Nat.succ_le_succ h.len)
section
variable {P : Program} {w : World} {K : PySem.W.Frag} {mg : Str → Option Value} {base : Heap} {aW aT : Addr} {es : Array DictEntry} {nn : Nat}
abbrev s_least_bench_end : Stmt := topS 10
abbrev n_least_bench_end : List Str := ["task", "k", "box", "windows", "window", "ends", "done", "best", "job", "before", "start"]
theorem sc_least_bench_end : FnScope n_least_bench_end ["task", "k", "box"] (defScope s_least_bench_end) := ⟨rfl, rfl, rfl, by decide +kernel, rfl, by decide +kernel, by decide +kernel⟩
def spLeast (C CR : Addr) : Sp := fun vs H Q E => ∃ (v b : V) (k : Nat) (ul : List Unk) (wl : List Wish) (goal : List Int) (js box : List (List Int)), vs = [v, .int k, b] ∧ TaskV C H v ul wl goal ∧ wl[k]? = some (.bench js) ∧ JobsOk ul.length 2 js ∧ JV H b box ∧ BoxOk ul.length box ∧
  (10 < js.length → ∀ d H', Same H H' → H' d = some (.xd [("word", .str "wide")]) → E (.ref CR) (some d) H') ∧
  (js.length ≤ 10 → Tf (js.map (winOf box)) js.length (lowest (js.map (winOf box))) (2 ^ js.length - 1) = none → ∀ H', Same H H' → Q .non H') ∧
  (js.length ≤ 10 → ∀ x s f p u H', Tf (js.map (winOf box)) js.length (lowest (js.map (winOf box))) (2 ^ js.length - 1) = some x → Perm js.length s → goT (js.map (winOf box)) s (List.replicate js.length 0) (lowest (js.map (winOf box))) = some (f, x.1) → Same H H' → H' p = some (.tup [.int x.1, u]) → LV H' u f → Q (.ref p) H')
theorem ok_least_bench_end {f C CR : Addr} {fd : FuncData} (F : Fun K "least_bench_end" "least_bench_end" s_least_bench_end f fd) (T : Txt K mg w aW aT es nn) (cc : CC K C) (e_Refused : ExK P w K mg base "Refused" CR) (c_job_windows : Cal P w K mg base 2 "job_windows" (spWin C) []) (c_end_and_starts : Cal P w K mg base 4 "_end_and_starts" (spEnd C) []) : FnOk P w K mg base (L2.CX P w) 5 f fd ["task", "k", "box"] (spLeast C CR) := by
  refine F.okX sc_least_bench_end (fun vs H Q E h => ?_) (fun cdv A outer s0 H vs Q E hr h => ?_)
  · obtain ⟨v, b, k, ul, wl, goal, js, box, rfl, _⟩ := h
    rfl
  · obtain ⟨v, b, k, ul, wl, goal, js, box, rfl, tv, hk, jo, bv, bo, qr, q1, q2⟩ := h
    have two := jo.two
    have few := jo.few
    refine ⟨_, (pss_cons (ps_set (i := 3) sc_least_bench_end.nd rfl (.inl rfl) (pe_c c_job_windows hr (by decide) (by rfl) (pa_cons (pv 0) (pa_cons (pv 1) (pa_cons (pv 2) pa_nil)))))
      (pss_cons (ps_if (pt_cmpR op_gt (pe_callB call_len_seq (by rfl) T.b_len (by decide +kernel) (pa_cons (pv 3) pa_nil)) (pe_gc (by rfl) T.c_MOST_JOBS) (nomark _)) (pss_one (ps_raiseE rfl (takes_of rfl rfl rfl rfl) e_Refused hr (by decide) (by rfl) pe_str)) pss_nil)
      (pss_cut (ps_set (i := 5) sc_least_bench_end.nd rfl (.inl rfl) (pe_disp (pps_cons pe_int (pe_tup (pa_cons (pe_callB (cr_min rfl) (by rfl) T.b_min (by decide +kernel) (pa_cons (pe_lc (own := [("window", 4)]) rfl sc_least_bench_end.nd (pi_tup (pv 3)) (blkOk_by (N := n_least_bench_end) (sc := defScope s_least_bench_end) (by decide +kernel)) (fun _ _ _ _ _ => (pg_name (i := 4) sc_least_bench_end.nd rfl (.inl rfl))) (fun _ _ _ _ _ => pts_nil) (fun _ _ _ _ _ => (pe_ix (r := rIxT K) ix_tup (pv 4) pe_int (fun _ _ => rfl)))) pa_nil)) (pa_cons pe_non pa_nil))) pps_nil) rfl rfl (by decide) (by decide)))
      (pss_cut (ps_for (passes_of rfl) rfl (pi_range2 (by rfl) T.b_range (pa_cons pe_int (pa_cons (pe_op op_shl pe_int (pe_callB call_len_seq (by rfl) T.b_len (by decide +kernel) (pa_cons (pv 3) pa_nil))) pa_nil))) (pg_name (i := 6) sc_least_bench_end.nd rfl (.inl rfl)) (pss_cons (ps_set (i := 7) sc_least_bench_end.nd rfl (.inl rfl) pe_non)
        (pss_cut (ps_for (passes_of rfl) rfl (pi_enT (by rfl) T.b_enumerate (pa_cons (pv 3) pa_nil)) (pg_tup rfl (pgs_cons (pg_name (i := 8) sc_least_bench_end.nd rfl (.inl rfl)) (pgs_cons (pg_name (i := 4) sc_least_bench_end.nd rfl (.inl rfl)) pgs_nil))) (pss_cut (ps_set (i := 9) sc_least_bench_end.nd rfl (.inl rfl) (pe_ifExp (pt_truth (pe_op op_and (pv 6) (pe_op op_shl pe_int (pv 8))) (by intro _; rfl)) (pe_dget1 hr.units1 (pv 5) (pe_op op_xor (pv 6) (pe_op op_shl pe_int (pv 8))) ⟨by rfl, by rfl, by rfl, by rfl⟩) pe_non))
          (pss_cons (ps_if (pt_cmpR op_isN (pv 9) pe_non (nomark _)) (pss_one ps_continue) pss_nil)
          (pss_cons (ps_set (i := 10) sc_least_bench_end.nd rfl (.inl rfl) (pe_callB (call_max2 rfl) (by rfl) T.b_max (by decide +kernel) (pa_cons (pe_ix ix_tup (pv 9) pe_int (fun _ _ => rfl)) (pa_cons (pe_ix ix_tup (pv 4) pe_int (fun _ _ => rfl)) pa_nil))))
          (pss_one (ps_if (PW.pt (pw_and (pt_cmpR op_le (pv 10) (pe_ix ix_tup (pv 4) pe_int (fun _ _ => rfl)) (nomark _)) (pw_and1 (PW.pt (pw_or (pt_cmpR op_isN (pv 7) pe_non (nomark _)) (pw_or1 (pt_cmpR op_lt (pe_op op_add (pv 10) (pe_ix ix_tup (pv 4) pe_int (fun _ _ => rfl))) (pe_ix ix_tup (pv 7) pe_int (fun _ _ => rfl)) (nomark _)))))))) (pss_one (ps_set (i := 7) sc_least_bench_end.nd rfl (.inl rfl) (pe_tup (pa_cons (pe_op op_add (pv 10) (pe_ix ix_tup (pv 4) pe_int (fun _ _ => rfl))) (pa_cons (pv 8) pa_nil))))) pss_nil))))))
        (pss_one (ps_if (pt_cmpR op_notN (pv 7) pe_non (nomark _)) (pss_one (ps_asg (pv 7) (pg_sub (pv 5) (pv 6) (set_dict hr.units1)))) pss_nil)))))
      (pss_one (ps_ret (pe_c c_end_and_starts hr (by decide) (by rfl) (pa_cons (pv 0) (pa_cons (pv 1) (pa_cons (pv 2) (pa_cons (pv 5) pa_nil))))))))))), ?_⟩
    refine ⟨_, rfl, _, rfl, _, rfl, v, b, k, ul, wl, goal, js, box, rfl, tv, hk, jo, bv, bo, fun pw us H1 s1 hpw lv => ?_⟩
    have lw : (js.map (winOf box)).length = js.length := List.length_map ..
    have lus : us.length = js.length := by rw [lv.len, List.length_map, lw]
    refine ⟨_, rfl, pw, _, rfl, .inr (sq_tup hpw), _, _, rfl, rfl, _, rfl, ite2 (fun h1 => ?_) (fun h1 => ?_)⟩
    · have h1 : (10 : Int) < (us.length : Nat) := of_decide_eq_true h1
      exact mkE_of e_Refused.oex e_Refused.noW fun d H2 s2 ed => qr (by omega) d H2 (s1.trans s2) ed
    have l10 : js.length ≤ 10 := by
      have : ¬ (10 : Int) < (us.length : Nat) := fun z => h1 (decide_eq_true z)
      omega
    have q1 := q1 l10
    have q2 := q2 l10
    have wne : js.map (winOf box) ≠ [] := fun z => by rw [z] at lw; simp at lw; omega
    obtain ⟨lm, lle⟩ := lowest_ok wne
    generalize ht0 : lowest (js.map (winOf box)) = t0 at *
    refine ⟨fun σ H' => ∃ pe p0, σ = [some v, some (.int (k : Int)), some b, some (.ref pw), none, some (.ref pe), none, none, none, none, none] ∧ Same H1 H' ∧ H1 pe = none ∧ H' pe = some (.dK [(.inl 0, .ref p0)]) ∧ H' p0 = some (.tup [.int t0, .non]), ?_, fun σ H2 hM => ?_⟩
    · intro pe npe
      have k0 := same_upd (o := .dK []) npe
      have hpe0 : upd H1 pe (.dK []) pe = some (.dK []) := upd_same
      generalize upd H1 pe (.dK []) = H2 at *
      refine ⟨_, rfl, pw, rfl, ⟨_, sq_tup (k0 _ _ hpw)⟩, fun D nD => ?_⟩
      refine lc_tup (K := K) (a := pw) (xs := us) (fun i H' => H' D = some (.lst (((js.map (winOf box)).take i).map (fun w => V.int w.1))) ∧ Same H2 H') ⟨upd_same, same_upd nD⟩ (fun i H' _ h => sq_tup (h.2 _ _ (k0 _ _ hpw))) ?_ ?_
      · rintro i y H3 hy ⟨hD, sm⟩
        obtain ⟨r, hr', pr, rfl, hpr⟩ := lv.at_ hy
        rw [List.getElem?_map] at hr'
        obtain ⟨wi, hwi, rfl⟩ := Option.map_eq_some_iff.mp hr'
        refine ⟨rfl, _, rfl, pr, _, 0, _, rfl, rfl, sq_tup (sm _ _ (k0 _ _ hpr)), rfl, ?_⟩
        refine ⟨_, hD, (by rw [List.length_map, List.length_take, lw]; exact small1000 (by omega)), ?_, same_at sm nD⟩
        rw [take_one hwi, List.map_append]
        exact upd_same
      · rintro H3 ⟨hD, sm⟩
        have nD1 : D ≠ pe := fun e => by rw [e, hpe0] at nD; cases nD
        have eL : ((js.map (winOf box)).take us.length).map (fun w => V.int w.1) = ((js.map (winOf box)).map (·.1)).map V.int := by
          rw [lus, ← lw, List.take_length, List.map_map (l := js.map (winOf box))]; rfl
        rw [eL] at hD
        refine ⟨D, (js.map (winOf box)).map (·.1), rfl, sq_lst hD, (by rw [List.length_map, lw]; omega), fun m h1 h2 => ?_⟩
        rw [show m = t0 from ht0 ▸ lowest_is wne h1 h2]
        refine ⟨len2, fun p np => ?_⟩
        have k2 := same_upd (o := .tup [.int t0, .non]) np
        have nep : p ≠ pe := fun e => by rw [e, sm _ _ hpe0] at np; cases np
        refine ⟨k2 _ _ (sm _ _ hpe0), [(.inl 0, .ref p)], rfl, (by show 1 ≤ 15; decide), pe, p, rfl, same_at ((k0.trans sm).trans k2) npe, npe, upd_same, ?_⟩
        rw [upd_ne nep]; exact upd_same
    obtain ⟨pe, p0, rfl, s2, npe, hpe, hp0⟩ := hM
    refine ⟨fun σ H' => ∃ kvs y4 y6 y7 y8 y9 y10, σ = [some v, some (.int (k : Int)), some b, some (.ref pw), y4, some (.ref pe), y6, y7, y8, y9, y10] ∧ Same H1 H' ∧ H' pe = some (.dK kvs) ∧ DcOk H' kvs (Tf (js.map (winOf box)) js.length t0) (2 ^ js.length), ?_, fun σ H3 hM => ?_⟩
    · have p0' := Nat.pow_pos (n := js.length) (show 0 < 2 by decide)
      have p10 : 2 ^ js.length ≤ 2 ^ 10 := Nat.pow_le_pow_right (by decide) l10
      have e10 : (2 : Nat) ^ 10 = 1024 := by decide
      refine ⟨_, rfl, pw, _, rfl, .inr (sq_tup (s2 _ _ hpw)), _, _, rfl, rfl, ⟨by omega, by rw [lus]; omega, by decide⟩, ?_⟩
      rw [lus, show (fun i j : Int => V.int (i * 2 ^ j.toNat)) 1 ((js.length : Nat) : Int) = V.int ((2 ^ js.length : Nat) : Int) from congrArg V.int (shl1 _)]
      generalize hN : 2 ^ js.length = N at *
      refine ⟨1, (N : Int), rfl, ⟨by omega, by omega, by omega, by omega⟩, for_range (lo := 1) (n := ((N : Int) - 1).toNat) (fun i σ H' => ∃ kvs y4 y6 y7 y8 y9 y10, σ = [some v, some (.int (k : Int)), some b, some (.ref pw), y4, some (.ref pe), y6, y7, y8, y9, y10] ∧ Same H1 H' ∧ H' pe = some (.dK kvs) ∧ DcOk H' kvs (Tf (js.map (winOf box)) js.length t0) (i + 1) ∧ ∀ m : Nat, i + 1 ≤ m → valV kvs (.inl (m : Int)) = none)
        ⟨_, none, none, none, none, none, none, rfl, s2, hpe, ?_, fun m hm => ?_⟩ (fun i σ H3 hi h => ?_) (fun σ H3 h => ?_)⟩
      · refine ⟨fun m hm hx => ?_, fun m x hm hx => ?_, by show 1 ≤ 1; decide⟩
        · obtain rfl : m = 0 := by omega
          rw [Tf_zero] at hx; cases hx
        · obtain rfl : m = 0 := by omega
          rw [Tf_zero] at hx
          cases hx
          exact ⟨_, rfl, p0, rfl, hp0⟩
      · have g := valV_put ([] : List (Key × V)) (.inl ((0 : Nat) : Int)) (.inl (m : Int)) (.ref p0)
        rw [if_neg (fun z => by have := key_inj.mp z; omega)] at g
        exact g
      · obtain ⟨kvs, y4, y6, y7, y8, y9, y10, rfl, sm, hp, dc, fut⟩ := h
        rw [show (1 + (i : Int)) = ((i + 1 : Nat) : Int) by omega]
        generalize hd : i + 1 = d at *
        have hdN : d < N := by omega
        have d0 : d ≠ 0 := by omega
        have ts := Tf_at (js.map (winOf box)) js.length t0 d (by omega)
        generalize hT : Tf (js.map (winOf box)) js.length t0 = T at *
        refine ⟨fun σ' H' => ∃ y4 y8 y9 y10 v7, σ' = [some v, some (.int (k : Int)), some b, some (.ref pw), y4, some (.ref pe), some (.int (d : Int)), some v7, y8, y9, y10] ∧ Same H3 H' ∧ BestV H' v7 (scan (js.map (winOf box)) T d js.length), ?_, fun σ' H4 hM => ?_⟩
        · refine ⟨_, rfl, pw, us, rfl, sq_tup (sm _ _ hpw), for_enT (K := K) (a := pw) (xs := us) (fun j σ H' => ∃ y4 y8 y9 y10 v7, σ = [some v, some (.int (k : Int)), some b, some (.ref pw), y4, some (.ref pe), some (.int (d : Int)), some v7, y8, y9, y10] ∧ Same H3 H' ∧ BestV H' v7 (scan (js.map (winOf box)) T d j))
            ⟨_, _, _, _, .non, rfl, Same.refl _, rfl⟩ (fun j σ H' h => ?_) (fun j x P' σ H4 hx h nP => ?_) (fun σ H4 h => ?_)⟩
          · obtain ⟨_, _, _, _, _, _, s', _⟩ := h
            exact sq_tup (s' _ _ (sm _ _ hpw))
          · obtain ⟨y4, y8, y9, y10, v7, rfl, s', bv7⟩ := h
            have jn : j < js.length := by have := (List.getElem?_eq_some_iff.mp hx).1; omega
            obtain ⟨pj, huj, hpj⟩ := win_at lv (j := j) (by rw [lw]; exact jn)
            rw [hx] at huj
            cases huj
            have sT := same_at (o := .tup [.int (j : Nat), .ref pj]) s' (s'.free nP)
            refine ⟨P', _, rfl, sq_tup upd_same, rfl, _, _, rfl, _, _, rfl, rfl, ?_⟩
            have bv7 := bv7.same (same_upd (o := .tup [.int (j : Nat), .ref pj]) nP)
            generalize upd H4 P' (.tup [.int (j : Nat), .ref pj]) = H5 at *
            have hpj5 := sT _ _ (sm _ _ hpj)
            have dc5 := dc.same sT
            have hp5 := sT _ _ hp
            have nx : scan (js.map (winOf box)) T d (j + 1) = if d.testBit j = true then match T (d ^^^ 2 ^ j) with
                | none => scan (js.map (winOf box)) T d j
                | some x => pick1 ((js.map (winOf box)).getD j W0) j (scan (js.map (winOf box)) T d j) x.1
              else scan (js.map (winOf box)) T d j := rfl
            generalize scan (js.map (winOf box)) T d (j + 1) = sc' at *
            generalize scan (js.map (winOf box)) T d j = sc at *
            generalize (js.map (winOf box)).getD j W0 = wj at *
            obtain ⟨q, hq⟩ : ∃ q : Option (Int × Nat), q = if d.testBit j = true then T (d ^^^ 2 ^ j) else none := ⟨_, rfl⟩
            have nx : sc' = match (motive := Option (Int × Nat) → Option (Int × Nat)) q with
                | none => sc
                | some x => pick1 wj j sc x.1 := by
              rw [nx, hq]
              split
              · rfl
              · rfl
            refine ⟨fun σ' H' => ∃ v9, σ' = [some v, some (.int (k : Int)), some b, some (.ref pw), some (.ref pj), some (.ref pe), some (.int (d : Int)), some v7, some (.int (j : Int)), some v9, y10] ∧ H5 = H' ∧ (q = none → v9 = .non) ∧ ∀ x, q = some x → ∃ p, v9 = .ref p ∧ ∃ u, H5 p = some (.tup [.int x.1, u]), ?_, fun σ' H' hM => ?_⟩
            · refine ⟨_, rfl, _, rfl, _, _, rfl, rfl, ⟨by omega, by omega, by decide⟩, _, _, rfl, rfl, ?_⟩
              rw [show (fun i j : Int => V.int (Builtin.bitAnd i j)) (d : Int) (1 * 2 ^ ((j : Nat) : Int).toNat) = V.int ((d &&& 2 ^ j : Nat) : Int) by rw [shl1]; exact congrArg V.int (bandN _ _), and_pow]
              by_cases hb : d.testBit j = true
              · rw [if_pos hb] at hq ⊢
                refine ⟨true, ?_, iteT ?_⟩
                · show true = ((((2 ^ j : Nat) : Int)) != 0)
                  have := Nat.pow_pos (n := j) (show 0 < 2 by decide)
                  rw [eq_comm, bne_iff_ne]; omega
                refine ⟨_, rfl, pe, rfl, .inl ⟨_, .inl hp5⟩, _, rfl, _, rfl, _, _, rfl, rfl, ⟨by omega, by omega, by decide⟩, _, _, rfl, rfl, ?_⟩
                rw [shl1, show (fun i j : Int => V.int (Builtin.bitXor i j)) (d : Int) ((2 ^ j : Nat) : Int) = V.int ((d ^^^ 2 ^ j : Nat) : Int) from congrArg V.int (xorI hb)]
                have ldN : d ^^^ 2 ^ j < d := bit_lt hb
                have g : DGet H5 pe (.int ((d ^^^ 2 ^ j : Nat) : Int)) (valV kvs (.inl ((d ^^^ 2 ^ j : Nat) : Int))) := DGet.k (k := .inl ((d ^^^ 2 ^ j : Nat) : Int)) hp5
                cases hT2 : T (d ^^^ 2 ^ j) with
                | none =>
                  rw [dc5.no _ ldN hT2] at g
                  exact ⟨_, g, _, rfl, rfl, fun _ => rfl, fun x z => by rw [hq, hT2] at z; cases z⟩
                | some x =>
                  obtain ⟨v9, e9, p9, rfl, h9⟩ := dc5.yes _ _ ldN hT2
                  rw [e9] at g
                  refine ⟨_, g, _, rfl, rfl, (fun z => by rw [hq, hT2] at z; cases z), fun y z => ?_⟩
                  rw [hq, hT2] at z
                  cases z
                  exact ⟨p9, rfl, _, h9⟩
              · rw [if_neg hb] at hq ⊢
                refine ⟨false, rfl, iteF ⟨_, rfl, rfl, fun _ => rfl, fun x z => by rw [hq] at z; cases z⟩⟩
            · obtain ⟨v9, rfl, rfl, q0, q9⟩ := hM
              cases q with
              | none =>
                obtain rfl := q0 rfl
                have nx : sc' = sc := nx
                subst nx
                exact ⟨_, rfl, rfl, _, rfl, iteT ⟨_, _, _, _, v7, rfl, sT, bv7⟩⟩
              | some x =>
                obtain ⟨p9, rfl, u9, h9⟩ := q9 x rfl
                have nx : sc' = pick1 wj j sc x.1 := nx
                refine ⟨_, rfl, rfl, _, rfl, iteF ?_⟩
                refine ⟨_, rfl, p9, _, 0, _, rfl, rfl, sq_tup h9, rfl, _, rfl, pj, _, 0, _, rfl, rfl, sq_tup hpj5, rfl, _, _, rfl, ?_⟩
                rw [show (if wj.1 > x.1 then wj.1 else x.1) = stW x.1 wj from rfl]
                unfold pick1 at nx
                generalize stW x.1 wj = st at *
                refine ⟨_, rfl, _, rfl, pj, _, 1, _, rfl, rfl, sq_tup hpj5, rfl, _, _, rfl, rfl, _, rfl, ite2 (fun h1 => ?_) (fun h1 => iteF ?_)⟩
                · have h1 : st ≤ wj.2.1 := of_decide_eq_true h1
                  cases sc with
                  | none =>
                    have bv7 : v7 = .non := bv7
                    subst bv7
                    rw [if_pos ⟨h1, trivial⟩] at nx
                    refine ⟨_, rfl, rfl, _, rfl, iteT (iteT ?_)⟩
                    refine ⟨_, rfl, _, rfl, pj, _, 2, _, rfl, rfl, sq_tup hpj5, rfl, _, _, rfl, rfl, _, rfl, len2, fun p np => ?_⟩
                    exact ⟨_, _, _, _, .ref p, rfl, sT.trans (same_upd np), by rw [nx]; exact ⟨p, rfl, upd_same⟩⟩
                  | some y =>
                    obtain ⟨p7, rfl, h7⟩ := id bv7
                    refine ⟨_, rfl, rfl, _, rfl, iteF ?_⟩
                    refine ⟨_, rfl, _, rfl, pj, _, 2, _, rfl, rfl, sq_tup hpj5, rfl, _, _, rfl, rfl, _, rfl, p7, _, 0, _, rfl, rfl, sq_tup h7, rfl, _, _, rfl, rfl, _, rfl, ite2 (fun h2 => ?_) (fun h2 => ?_)⟩
                    · have h2 : st + wj.2.2.1 < y.1 := of_decide_eq_true h2
                      rw [if_pos ⟨h1, h2⟩] at nx
                      refine ⟨_, rfl, _, rfl, pj, _, 2, _, rfl, rfl, sq_tup hpj5, rfl, _, _, rfl, rfl, _, rfl, len2, fun p np => ?_⟩
                      exact ⟨_, _, _, _, .ref p, rfl, sT.trans (same_upd np), by rw [nx]; exact ⟨p, rfl, upd_same⟩⟩
                    · rw [if_neg (fun z => h2 (decide_eq_true z.2))] at nx
                      subst nx
                      exact ⟨_, _, _, _, _, rfl, sT, bv7⟩
                · rw [if_neg (fun z => h1 (decide_eq_true z.1))] at nx
                  subst nx
                  exact ⟨_, _, _, _, v7, rfl, sT, bv7⟩
          · rw [lus] at h
            exact h
        · obtain ⟨y4, y8, y9, y10, v7, rfl, s', bv7⟩ := hM
          have dc' := dc.same s'
          have hp' := s' _ _ hp
          rw [← ts] at bv7
          cases hTd : T d with
          | none =>
            rw [hTd] at bv7
            have bv7 : v7 = .non := bv7
            subst bv7
            exact ⟨_, rfl, rfl, _, rfl, iteF ⟨kvs, _, _, _, _, _, _, rfl, sm.trans s', hp', dc'.skip (fut d (Nat.le_refl _)) hTd, fun m hm => fut m (by omega)⟩⟩
          | some x =>
            rw [hTd] at bv7
            obtain ⟨p7, rfl, hp7⟩ := bv7
            refine ⟨_, rfl, rfl, _, rfl, iteT ?_⟩
            refine ⟨_, rfl, _, rfl, _, rfl, pe, _, rfl, DPut.k (k := .inl (d : Int)) hp' (Nat.lt_of_le_of_lt dc'.len (by rw [sizeLine_eq]; omega)), ?_⟩
            refine ⟨_, _, _, _, _, _, _, rfl, same_at (sm.trans s') npe, upd_same, dc'.put d0 hTd hp7 hp' (fun q u nq hq => by rw [upd_ne nq]; exact hq), fun m hm => ?_⟩
            rw [valV_put, if_neg (fun z => by have := key_inj.mp z; omega)]
            exact fut m (by omega)
      · obtain ⟨kvs, y4, y6, y7, y8, y9, y10, rfl, sm, hp, dc, fut⟩ := h
        rw [show ((N : Int) - 1).toNat + 1 = N by omega] at dc
        exact ⟨kvs, y4, y6, y7, y8, y9, y10, rfl, sm, hp, dc⟩
    obtain ⟨kvs, y4, y6, y7, y8, y9, y10, rfl, s3, hpe3, dc⟩ := hM
    have s03 := s1.trans s3
    exact ⟨_, rfl, _, rfl, _, rfl, _, rfl, v, b, k, ul, wl, goal, js, box, pe, kvs, t0, rfl, tv.same s03, hk, jo, bv.same s03, bo, l10, hpe3, dc, lle, fun e H4 s4 => q1 e _ (s03.trans s4), fun x s f p u H4 e o g s4 hp lf => q2 x s f p u H4 e o g (s03.trans s4) hp lf⟩
end
end M63

namespace M63
open PySem PySem.Spec PyProof.Rows L2 SX Own Gd
open C8 (Cal pe_c pe_gc pe_mk Mak pss_cut)
section
variable {P : Program} {w : World} {K : PySem.W.Frag} {mg : Str → Option Value} {base : Heap} {aW aT : Addr} {es : Array DictEntry} {nn : Nat}
abbrev s_Ldraw : Stmt := topS 41
abbrev n_Ldraw : List Str := ["heap", "many", "rest"]
theorem sc_Ldraw : FnScope n_Ldraw ["heap", "many"] (defScope s_Ldraw) := ⟨rfl, rfl, rfl, by decide +kernel, rfl, by decide +kernel, by decide +kernel⟩
def spDraw : Sp := fun vs H Q _ => ∃ (h q : Addr) (n : Int), vs = [.ref h, .int n] ∧ HpAt H h q ∧ 0 < n ∧ n < 1073741824 ∧ ∀ d H', 0 ≤ d → d < n → HpAt H' h q → Kpt h q H H' → Q (.int d) H'
theorem ok_draw {f : Addr} {fd : FuncData} (F : Fun K "_law_draw" "_law_draw" s_Ldraw f fd) (T : Txt K mg w aW aT es nn) : FnOk P w K mg base CX0 1 f fd ["heap", "many"] spDraw := by
  refine F.ok sc_Ldraw (fun vs H Q E h => ?_) (fun cdv A outer s H vs Q E hr h => ?_)
  · obtain ⟨h, q, n, rfl, _⟩ := h
    rfl
  · obtain ⟨h, q, n, rfl, ⟨cs0, st0, a0⟩, hn, hn2, k⟩ := h
    refine ⟨_, (pss_cut (ps_while PassesOwn.never (PW.pt (pw_and (pt_cmpR (op_neD hr.units) (pe_ix ix_list (pv 0) pe_int (fun _ _ => rfl)) (pe_lst pa_nil) (nomark _)) (pw_and1 (pt_cmpR op_eq (pe_ix ix_list (pe_ix ix_list (pv 0) pe_int (fun _ _ => rfl)) (pe_un un_neg pe_int) (fun _ _ => rfl)) pe_int (nomark _))))) (pss_one (ps_expr (pe_bm0 PySem.F.plainAttrs_list PySem.F.slot_list_pop PySem.F.type_list_pop mt_pop (pe_ix ix_list (pv 0) pe_int (fun _ _ => rfl))))))
      (pss_cons (ps_if (pt_cmpR (op_neD hr.units) (pe_ix ix_list (pv 0) pe_int (fun _ _ => rfl)) (pe_lst pa_nil) (nomark _)) (pss_cons (ps_set (i := 2) sc_Ldraw.nd rfl (.inl rfl) (pe_bm0 PySem.F.plainAttrs_list PySem.F.slot_list_pop PySem.F.type_list_pop mt_pop (pe_ix ix_list (pv 0) pe_int (fun _ _ => rfl))))
        (pss_cons (ps_expr (pe_bm PySem.F.plainAttrs_list PySem.F.slot_list_append PySem.F.type_list_append mt_append (pe_ix ix_list (pv 0) pe_int (fun _ _ => rfl)) (pa_cons (pe_op op_fdiv (pv 2) (pv 1)) pa_nil)))
        (pss_one (ps_ret (pe_op op_mod (pe_callTy call_int1 (by rfl) T.b_int (by decide +kernel) (pa_cons (pv 2) pa_nil)) (pv 1)))))) pss_nil)
      (pss_cons (ps_asg (pe_op op_mod (pe_callTy call_int1 (by rfl) T.b_int (by decide +kernel) (pa_cons (pe_op op_add (pe_op op_mul (pe_ix ix_list (pv 0) pe_int (fun _ _ => rfl)) pe_int) pe_int) pa_nil)) pe_int) (pg_sub (pv 0) pe_int set_list))
      (pss_one (ps_ret (pe_op op_mod (pe_callTy call_int1 (by rfl) T.b_int (by decide +kernel) (pa_cons (pe_op op_fdiv (pe_ix ix_list (pv 0) pe_int (fun _ _ => rfl)) pe_int) pa_nil)) (pv 1))))))), ?_⟩
    refine ⟨fun σ H' => ∃ cs st y, σ = [some (.ref h), some (.int n), y] ∧ HpL H' h q cs st ∧ Kpt h q H H', ?_, fun σ H1 hM => ?_⟩
    · refine ⟨fun m σ H' => ∃ cs st y, σ = [some (.ref h), some (.int n), y] ∧ HpL H' h q cs st ∧ Kpt h q H H' ∧ m = cs.length, ⟨_, cs0, st0, none, rfl, a0, Kpt.refl _ _ _, rfl⟩, fun m σ H1 hW => ?_⟩
      obtain ⟨cs, st, y, rfl, a, kp, rfl⟩ := hW
      refine ⟨_, rfl, h, _, 0, .ref q, rfl, rfl, sq_lst a.hh, rfl, Nat.zero_le _, fun p np => ?_⟩
      have sm : Same H1 (upd H1 p (.lst [])) := same_upd np
      have a2 := a.same sm
      refine ⟨_, _, .lst (sq_lst a2.hq) (dp_ints cs), .lst (sq_lst upd_same) .nil, shp_ints cs, shp_ints [], _, rfl, ?_⟩
      rcases List.eq_nil_or_concat cs with rfl | ⟨ds, c, rfl⟩
      · refine iteF ?_
        exact ⟨[], st, y, rfl, a2, kp.trans (.of_same sm)⟩
      · have e : PyData.eqv (.list ((ds.concat c).map PyData.int)) (.list []) = false := by
          rw [List.concat_eq_append, List.map_append, PyData.eqv]
          cases ds with
          | nil => rfl
          | cons d r => rfl
        rw [e]
        refine iteT ?_
        have el : (ds.concat c).map V.int = ds.map V.int ++ [.int c] := by rw [List.concat_eq_append, List.map_append]; rfl
        refine ⟨_, rfl, h, _, 0, .ref q, rfl, rfl, sq_lst a2.hh, rfl, _, rfl, q, _, -1, .int c, rfl, rfl, sq_lst a2.hq, (by rw [el]; exact atI_last _ _), rfl, _, rfl, ite2 (fun hz => ?_) (fun hz => ?_)⟩
        · refine ⟨fun σ' H' => ∃ m', m' < (ds.concat c).length ∧ _, fun _ _ z => z, ?_⟩
          refine ⟨_, rfl, h, _, 0, .ref q, rfl, rfl, sq_lst a2.hh, rfl, .inl ⟨rfl, _, sq_lst a2.hq⟩, q, _, .int c, rfl, rfl, a2.hq, ?_, ds.length, ?_, ds, st, y, rfl, ?_, ?_, rfl⟩
          · rw [el, List.length_append, List.length_singleton, Nat.add_sub_cancel, List.getElem?_append_right (Nat.le_refl _), Nat.sub_self]; rfl
          · rw [List.length_concat]; omega
          · rw [el, List.dropLast_concat]
            refine a2.put ds (fun x hx => a.nn x (by rw [List.concat_eq_append]; exact List.mem_append_left _ hx)) ?_
            have := a.ln; rw [List.length_concat] at this; omega
          · exact (kp.trans (.of_same sm)).trans .at_q
        · exact ⟨ds.concat c, st, y, rfl, a2, kp.trans (.of_same sm)⟩
    · obtain ⟨cs, st, y, rfl, a, kp⟩ := hM
      refine ⟨_, rfl, h, _, 0, .ref q, rfl, rfl, sq_lst a.hh, rfl, Nat.zero_le _, fun p np => ?_⟩
      have sm : Same H1 (upd H1 p (.lst [])) := same_upd np
      have a2 := a.same sm
      refine ⟨_, _, .lst (sq_lst a2.hq) (dp_ints cs), .lst (sq_lst upd_same) .nil, shp_ints cs, shp_ints [], _, rfl, ?_⟩
      have kp2 := kp.trans (.of_same (h := h) (q := q) sm)
      rcases List.eq_nil_or_concat cs with rfl | ⟨ds, c, rfl⟩
      · refine iteF ?_
        have b1 : (0 : Int) ≤ (st * 69621 + 29) % 2147483647 := Int.emod_nonneg _ (by decide)
        have b2 : (st * 69621 + 29) % 2147483647 < 2147483647 := Int.emod_lt_of_pos _ (by decide)
        refine ⟨_, rfl, h, _, 1, .int st, rfl, rfl, sq_lst a2.hh, rfl, _, _, rfl, rfl, .inr ⟨by decide, by decide⟩, _, _, rfl, rfl, .inl ⟨_, rfl, _, _, rfl, rfl, (by show (0 : Int) < 2147483647; decide), _, rfl, h, _, 1, 1, rfl, rfl, a2.hh, rfl, ?_⟩⟩
        have a3 : HpL (upd (upd H1 p (.lst [])) h (.lst [.ref q, .int ((st * 69621 + 29) % 2147483647)])) h q [] ((st * 69621 + 29) % 2147483647) :=
          ⟨a.ne, upd_same, by rw [upd_ne a.ne.symm]; exact a2.hq, a.nn, a.ln, b1, b2⟩
        refine ⟨_, rfl, h, _, 1, _, rfl, rfl, sq_lst a3.hh, rfl, _, _, rfl, rfl, ⟨by decide, by decide⟩, .inl ⟨_, rfl, _, rfl, _, _, rfl, rfl, hn, ?_⟩⟩
        exact k _ _ (Int.emod_nonneg _ (by omega)) (Int.emod_lt_of_pos _ hn) ⟨_, _, a3⟩ (kp2.trans .at_h)
      · have e : PyData.eqv (.list ((ds.concat c).map PyData.int)) (.list []) = false := by
          rw [List.concat_eq_append, List.map_append, PyData.eqv]
          cases ds with
          | nil => rfl
          | cons d r => rfl
        rw [e]
        refine iteT ?_
        have el : (ds.concat c).map V.int = ds.map V.int ++ [.int c] := by rw [List.concat_eq_append, List.map_append]; rfl
        have c0 : 0 ≤ c := a.nn c (by rw [List.concat_eq_append]; simp)
        have dl : ds.length + 1 ≤ 60 := by have := a.ln; rwa [List.length_concat] at this
        refine ⟨_, rfl, h, _, 0, .ref q, rfl, rfl, sq_lst a2.hh, rfl, .inl ⟨rfl, _, sq_lst a2.hq⟩, q, _, .int c, rfl, rfl, a2.hq, ?_, ?_⟩
        · rw [el, List.length_append, List.length_singleton, Nat.add_sub_cancel, List.getElem?_append_right (Nat.le_refl _), Nat.sub_self]; rfl
        · rw [el, List.dropLast_concat]
          have a3 := a2.put ds (fun x hx => a.nn x (by rw [List.concat_eq_append]; exact List.mem_append_left _ hx)) (by omega)
          refine ⟨_, rfl, h, _, 0, .ref q, rfl, rfl, sq_lst a3.hh, rfl, .inl ⟨rfl, _, sq_lst a3.hq⟩, _, rfl, _, rfl, _, _, rfl, rfl, ⟨hn, hn2⟩, q, _, _, rfl, rfl, a3.hq, ?_, ?_⟩
          · rw [List.length_map]; exact small1000 (by omega)
          · have a4 := a3.put (ds ++ [c / n]) (fun x hx => by
              rcases List.mem_append.mp hx with z | z
              · exact a3.nn x z
              · rw [List.mem_singleton.mp z]; exact Int.ediv_nonneg c0 (by omega)) (by rw [List.length_append]; exact dl)
            rw [List.map_append] at a4
            refine ⟨_, rfl, .inl ⟨_, rfl, _, rfl, _, _, rfl, rfl, hn, ?_⟩⟩
            exact k _ _ (Int.emod_nonneg _ (by omega)) (Int.emod_lt_of_pos _ hn) ⟨_, _, a4⟩ ((kp2.trans .at_q).trans .at_q)
abbrev s_Lheap : Stmt := topS 40
abbrev n_Lheap : List Str := ["script", "cell", "cells", "stir"]
theorem sc_Lheap : FnScope n_Lheap ["script"] (defScope s_Lheap) := ⟨rfl, rfl, rfl, by decide +kernel, rfl, by decide +kernel, by decide +kernel⟩
def spHeap (K : PySem.W.Frag) : Sp := fun vs H Q _ => ∃ (a : Addr) (ns : List Int), vs = [.ref a] ∧ SqL K H a (ns.map V.int) ∧ ns.length ≤ 63 ∧ ∀ H' h q, Same H H' → H h = none → H q = none → HpAt H' h q → Q (.ref h) H'
theorem ok_heap {f : Addr} {fd : FuncData} (F : Fun K "_law_heap" "_law_heap" s_Lheap f fd) (T : Txt K mg w aW aT es nn) : FnOk P w K mg base CX0 1 f fd ["script"] (spHeap K) := by
  refine F.ok sc_Lheap (fun vs H Q E h => ?_) (fun cdv A outer s H vs Q E hr h => ?_)
  · obtain ⟨a, ns, rfl, _⟩ := h
    rfl
  · obtain ⟨a, ns, rfl, hS, hlen, k⟩ := h
    refine ⟨_, (pss_cons (ps_par (i := 2) (j := 3) (by rfl) sc_Lheap.nd rfl rfl (by decide) rfl rfl (pa_cons (pe_lc (own := [("cell", 1)]) rfl sc_Lheap.nd (pi_list (pe_slice sl_list (pv 0) po_none (po_some pe_int))) (blkOk_by (N := n_Lheap) (sc := defScope s_Lheap) (by decide +kernel)) (fun _ _ _ _ _ => (pg_name (i := 1) sc_Lheap.nd rfl (.inl rfl))) (fun _ _ _ _ _ => pts_nil) (fun _ _ _ _ _ => (pe_op op_add (pe_op op_mul pe_int (pe_callB call_abs (by rfl) T.b_abs (by decide +kernel) (pa_cons (pv 1) pa_nil))) (pe_callTy call_int1 (by rfl) T.b_int (by decide +kernel) (pa_cons (pe_cmpR op_lt (pv 1) pe_int (nomark _)) pa_nil))))) (pa_cons pe_int pa_nil)) (by rfl))
      (pss_cons (ps_for PassesOwn.never rfl (pi_list (pv 2)) (pg_name (i := 1) sc_Lheap.nd rfl (.inl rfl)) (pss_one (ps_set (i := 3) sc_Lheap.nd rfl (.inl rfl) (pe_op op_mod (pe_callTy call_int1 (by rfl) T.b_int (by decide +kernel) (pa_cons (pe_op op_add (pe_op op_add (pe_op op_mul (pv 3) pe_int) (pe_op op_mod (pe_callTy call_int1 (by rfl) T.b_int (by decide +kernel) (pa_cons (pv 1) pa_nil)) pe_int)) pe_int) pa_nil)) pe_int))))
      (pss_one (ps_ret (pe_lst (pa_cons (pe_revL (pe_lc (own := [("cell", 1)]) rfl sc_Lheap.nd (pi_list (pv 2)) (blkOk_by (N := n_Lheap) (sc := defScope s_Lheap) (by decide +kernel)) (fun _ _ _ _ _ => (pg_name (i := 1) sc_Lheap.nd rfl (.inl rfl))) (fun _ _ _ _ _ => (pts_one (pt_cmpR op_ge (pv 1) (pe_op op_pow pe_int pe_int) (nomark _)))) (fun _ _ _ _ _ => (pv 1)))) (pa_cons (pv 3) pa_nil))))))), ?_⟩
    refine ⟨_, rfl, _, rfl, a, _, rfl, hS, fun p np => ?_⟩
    rw [cut60]
    have s1 : Same H (upd H p (.lst ((ns.take 60).map V.int))) := same_upd np
    refine ⟨p, rfl, ⟨_, sq_lst upd_same⟩, fun D nD => ?_⟩
    have nDH : H D = none := s1.free nD
    have hDp : p ≠ D := ne_of_none upd_same nD
    refine lc_list (K := K) (a := p) (xs := (ns.take 60).map V.int) (fun i H' => ∃ cs : List Int, H' D = some (.lst (cs.map V.int)) ∧ (∀ c ∈ cs, 0 ≤ c) ∧ cs.length = i ∧ H' p = some (.lst ((ns.take 60).map V.int)) ∧ Same H H')
      ⟨[], upd_same, by simp, rfl, by rw [upd_ne hDp]; exact upd_same, same_at s1 nDH⟩ (fun i H' _ ⟨_, _, _, _, e, _⟩ => sq_lst e) ?_ ?_
    · rintro i x H' hi ⟨cs, hD, c0, cl, hp, sm⟩
      obtain ⟨z, hz, rfl⟩ := get_int hi
      have hil : i < (ns.take 60).length := (List.getElem?_eq_some_iff.mp hz).1
      rw [List.length_take] at hil
      refine ⟨rfl, _, rfl, z, rfl, _, _, rfl, rfl, .inl ⟨by decide, by decide⟩, _, rfl, _, _, rfl, rfl, .inr ⟨_, rfl, _, _, rfl, rfl, cs.map V.int, hD, (by rw [List.length_map]; exact small1000 (by omega)), cs ++ [2 * (if z < 0 then -z else z) + if decide (z < 0) = true then 1 else 0], ?_, ?_, ?_, ?_, same_at sm nDH⟩⟩
      · rw [upd_same, List.map_append]; rfl
      · intro c hc
        rcases List.mem_append.mp hc with h | h
        · exact c0 c h
        · rw [List.mem_singleton.mp h]; split <;> split <;> omega
      · rw [List.length_append, cl]; rfl
      · rw [upd_ne hDp]; exact hp
    · rintro H2 ⟨cs, hD, c0, cl, hp, sm⟩
      have cl60 : cs.length ≤ 60 := by rw [cl, List.length_map, List.length_take]; omega
      refine ⟨_, _, rfl, ?_⟩
      -- the loop over the cells
      refine ⟨_, rfl, D, rfl, ⟨_, sq_lst hD⟩, for_list (K := K) (a := D) (xs := cs.map V.int) (fun i σ H' => ∃ (y : Option V) (st : Int), σ = [some (.ref a), y, some (.ref D), some (.int st)] ∧ 0 ≤ st ∧ st < 2147483647 ∧ H' = H2)
        ⟨_, 7547, rfl, by decide, by decide, rfl⟩ (fun i σ H' _ ⟨_, _, _, _, _, e⟩ => by rw [e]; exact sq_lst hD) ?_ ?_⟩
      · rintro i x σ H' hi ⟨y, st, rfl, h0, h1, rfl⟩
        obtain ⟨z, hz, rfl⟩ := get_int hi
        refine ⟨_, rfl, _, _, rfl, rfl, .inl ⟨by omega, by omega⟩, _, rfl, .inl ⟨_, rfl, _, _, rfl, rfl, (by show (0 : Int) < 2147483563; decide), _, _, rfl, rfl, _, _, rfl, rfl, .inl ⟨_, rfl, _, _, rfl, rfl, (by show (0 : Int) < 2147483647; decide), ?_⟩⟩⟩
        exact ⟨_, _, rfl, Int.emod_nonneg _ (by decide), Int.emod_lt_of_pos _ (by decide), rfl⟩
      · rintro σ H' ⟨y, st, rfl, h0, h1, rfl⟩
        refine ⟨_, rfl, D, rfl, ⟨_, sq_lst hD⟩, fun D2 nD2 => ?_⟩
        have nD2H : H D2 = none := sm.free nD2
        have hDD : D ≠ D2 := ne_of_none hD nD2
        refine lc_list (K := K) (a := D) (xs := cs.map V.int) (fun i H3 => ∃ ds : List Int, H3 D2 = some (.lst (ds.map V.int)) ∧ (∀ c ∈ ds, 0 ≤ c) ∧ ds.length ≤ i ∧ H3 D = some (.lst (cs.map V.int)) ∧ Same H H3)
          ⟨[], upd_same, by simp, Nat.le_refl _, by rw [upd_ne hDD]; exact hD, same_at sm nD2H⟩ (fun i H' _ ⟨_, _, _, _, e, _⟩ => sq_lst e) ?_ ?_
        · rintro i x H3 hi ⟨ds, hd, d0, dl, hc, sm3⟩
          obtain ⟨z, hz, rfl⟩ := get_int hi
          have hil : i < cs.length := (List.getElem?_eq_some_iff.mp hz).1
          have hz0 : 0 ≤ z := c0 z (List.mem_of_getElem? hz)
          refine ⟨rfl, _, rfl, _, _, rfl, rfl, ⟨by decide, by decide, by decide⟩, _, _, rfl, rfl, _, rfl, ite2 (fun _ => ?_) (fun _ => ?_)⟩
          · refine ⟨_, rfl, ds.map V.int, hd, (by rw [List.length_map]; exact small1000 (by omega)), ds ++ [z], ?_, ?_, ?_, ?_, same_at sm3 nD2H⟩
            · rw [upd_same, List.map_append]; rfl
            · intro c hc
              rcases List.mem_append.mp hc with h | h
              · exact d0 c h
              · rw [List.mem_singleton.mp h]; exact hz0
            · rw [List.length_append]; exact Nat.succ_le_succ dl
            · rw [upd_ne hDD]; exact hc
          · exact ⟨ds, hd, d0, by omega, hc, sm3⟩
        · rintro H3 ⟨ds, hd, d0, dl, hc, sm3⟩
          have dl60 : ds.length ≤ 60 := by rw [List.length_map] at dl; omega
          refine ⟨D2, _, rfl, sq_lst hd, fun q nq => ?_⟩
          refine ⟨_, rfl, (by show 2 ≤ sizeLine; decide), fun g ng => ?_⟩
          have s4 := same_at (o := .lst (ds.map V.int).reverse) sm3 (sm3.free nq)
          have s5 := same_at (o := .lst [.ref q, .int st]) s4 (s4.free ng)
          have hgq : g ≠ q := (ne_of_none upd_same ng).symm
          refine k _ g q s5 (s4.free ng) (sm3.free nq) ⟨ds.reverse, st, hgq, upd_same, ?_, ?_, ?_, h0, h1⟩
          · rw [upd_ne hgq.symm, upd_same, List.map_reverse]
          · intro c hc; exact d0 c (List.mem_reverse.mp hc)
          · rw [List.length_reverse]; exact dl60
abbrev s_Lpick : Stmt := topS 42
abbrev n_Lpick : List Str := ["heap", "some"]
theorem sc_Lpick : FnScope n_Lpick ["heap", "some"] (defScope s_Lpick) := ⟨rfl, rfl, rfl, by decide +kernel, rfl, by decide +kernel, by decide +kernel⟩
def spPickL : Sp := fun vs H Q _ => ∃ (h q p : Addr) (xs : List V), vs = [.ref h, .ref p] ∧ HpAt H h q ∧ H p = some (.lst xs) ∧ p ≠ h ∧ p ≠ q ∧ xs ≠ [] ∧ xs.length ≤ 1000 ∧ ∀ v H', v ∈ xs → HpAt H' h q → Kpt h q H H' → Q v H'
theorem ok_pickL {f : Addr} {fd : FuncData} (F : Fun K "_law_pick" "_law_pick" s_Lpick f fd) (T : Txt K mg w aW aT es nn) (c_Ldraw : Cal P w K mg base 1 "_law_draw" spDraw []) : FnOk P w K mg base CX0 2 f fd ["heap", "some"] spPickL := by
  refine F.ok sc_Lpick (fun vs H Q E h => ?_) (fun cdv A outer s H vs Q E hr h => ?_)
  · obtain ⟨h, q, p, xs, rfl, _⟩ := h
    rfl
  · obtain ⟨h, q, p, xs, rfl, a, hp, p1, p2, hl, hn, k⟩ := h
    refine ⟨_, (pss_one (ps_ret (pe_ix ix_list (pv 1) (pe_c c_Ldraw hr (by decide) (by rfl) (pa_cons (pv 0) (pa_cons (pe_callB call_len_seq (by rfl) T.b_len (by decide +kernel) (pa_cons (pv 1) pa_nil)) pa_nil))) (fun _ _ => rfl)))), ?_⟩
    have h1 : 0 < xs.length := List.length_pos_iff.mpr hl
    refine ⟨_, rfl, _, rfl, _, rfl, p, xs, rfl, .inl (sq_lst hp), h, q, (xs.length : Int), rfl, a, by omega, by omega, fun d H' d0 d1 a' kp => ?_⟩
    obtain ⟨j, rfl⟩ : ∃ j : Nat, d = (j : Int) := ⟨d.toNat, by omega⟩
    have hj : j < xs.length := by omega
    exact ⟨p, xs, (j : Int), xs[j], rfl, rfl, sq_lst (kp _ _ hp p1 p2), atI_nat (List.getElem?_eq_getElem hj), k _ _ (List.getElem_mem hj) a' kp⟩
end
end M63

namespace M63
open PySem PySem.Spec PyProof.Rows L2 SX Own Gd
open C8 (Cal pe_c pe_gc pe_mk Mak pss_cut)
/-! ### tuples stay while lists change -/
def TK (H H' : Hp) : Prop := ∀ a xs, H a = some (.tup xs) → H' a = some (.tup xs)
theorem TK.of {H H' : Hp} (s : Same H H') : TK H H' := fun a xs e => s _ _ e
theorem TK.put {H : Hp} {l : Addr} {xs : List V} {o : HO} (e : H l = some (.lst xs)) : TK H (upd H l o) := fun a ys z => by
  rw [upd_ne (fun h => by rw [h, e] at z; cases z)]; exact z
theorem TK.trans {H H1 H2 : Hp} (x : TK H H1) (y : TK H1 H2) : TK H H2 := fun a xs e => y _ _ (x _ _ e)
theorem TK.kp {H H' : Hp} {h q : Addr} (k : Kpt h q H H') (a : HpAt H h q) : TK H H' := fun b xs e => by
  obtain ⟨cs, st, a⟩ := a
  exact k _ _ e (fun z => by rw [z, a.hh] at e; cases e) (fun z => by rw [z, a.hq] at e; cases e)
theorem LV.tk {H H' : Hp} {v : V} {a : List Int} (h : LV H v a) (s : TK H H') : LV H' v a := by
  obtain ⟨p, e, hp⟩ := h
  exact ⟨p, e, s _ _ hp⟩
theorem LVs.tk {H H' : Hp} (s : TK H H') : ∀ {vs : List V} {as : List (List Int)}, LVs H vs as → LVs H' vs as
  | _, _, .nil => .nil
  | _, _, .cons h t => .cons (h.tk s) (t.tk s)
theorem UVs.tk {H H' : Hp} (s : TK H H') : ∀ {vs : List V} {as : List Unk}, UVs H vs as → UVs H' vs as
  | _, _, .nil => .nil
  | _, _, .cons ⟨p, e, h⟩ t => .cons ⟨p, e, s _ _ h⟩ (t.tk s)
theorem UVs.app {H : Hp} {v : V} {u : Unk} : ∀ {vs : List V} {as : List Unk}, UVs H vs as → UV H v u → UVs H (vs ++ [v]) (as ++ [u])
  | _, _, .nil, h => .cons h .nil
  | _, _, .cons g t, h => .cons g (t.app h)
theorem JV.tk {H H' : Hp} {v : V} {js : List (List Int)} (h : JV H v js) (s : TK H H') : JV H' v js := by
  obtain ⟨p, us, e, f, g⟩ := h
  exact ⟨p, us, e, s _ _ f, g.tk s⟩
theorem WV.tk {H H' : Hp} {v : V} {x : Wish} (h : WV H v x) (s : TK H H') : WV H' v x := by
  cases x with
  | unlike a =>
    obtain ⟨p, u, e, f, g⟩ := h
    exact ⟨p, u, e, s _ _ f, g.tk s⟩
  | bench js =>
    obtain ⟨p, u, e, f, g⟩ := h
    exact ⟨p, u, e, s _ _ f, g.tk s⟩
theorem HpAt.put {H : Hp} {h q l : Addr} {o : HO} (a : HpAt H h q) (n1 : l ≠ h) (n2 : l ≠ q) : HpAt (upd H l o) h q := HpAt.upd a n1 n2
/-! ### names -/
theorem op_mulA {X : Cx} : OpR X (binaryOp .Mult) (fun x y H Q => ∃ (z : Str) (n : Nat), x = .str z ∧ y = .int (n : Int) ∧ z.length ≤ 4 ∧ n ≤ 1000 ∧ Q (.str (Txt.mul z (n : Int))) H) := by
  intro pins s σ H x y v u Q I rx ry h
  obtain ⟨z, n, rfl, rfl, hl, hn, q⟩ := h
  obtain ⟨t, rfl⟩ := rx
  obtain ⟨t', rfl⟩ := ry
  exact SB.mul (mulOk_of 4 1000 hl (by omega) (by omega) (by decide) (by decide)) fun t2 tk => ⟨.str _, H, I.tok _, ⟨_, rfl⟩, q⟩
def letterC (i : Nat) : Nat := ([98, 100, 102, 104, 106, 108, 110, 112, 114, 116, 118, 120, 122] : List Nat).getD i 0
def nmOf (i d : Nat) : Str := (⟨#[letterC i]⟩ : Str) ++ Txt.mul "a" (d : Int)
def nmB (s : Str) : Bool := decide (1 ≤ s.length) && (decide (s.length ≤ 6) && (s.cps.toList.all (fun c => ("abcdefghijklmnopqrstuvwxyz" : Str).cps.toList.contains c) && !inV (.str s) (wordsL.map V.str)))
theorem nm_of {s : Str} (h : nmB s = true) : NmOk s := by
  unfold nmB at h
  rw [Bool.and_eq_true, Bool.and_eq_true, Bool.and_eq_true] at h
  obtain ⟨h1, h2, h3, h4⟩ := h
  refine ⟨of_decide_eq_true h1, of_decide_eq_true h2, fun c hc => ?_, ?_⟩
  · have := List.all_eq_true.mp h3 c hc
    exact List.contains_iff_mem.mp this
  · simpa using h4
theorem nm_all : ∀ i : Fin 6, ∀ d : Fin 3, nmB (nmOf i d) = true := by decide +kernel
theorem nm_ok {i d : Nat} (hi : i < 6) (hd : d < 3) : NmOk (nmOf i d) := nm_of (nm_all ⟨i, hi⟩ ⟨d, hd⟩)
theorem nm_lt_all : ∀ i : Fin 5, ∀ d e : Fin 3, (nmOf i d).cps.toList < (nmOf (i + 1) e).cps.toList := by decide +kernel
theorem nm_lt {i d e : Nat} (hi : i < 5) (hd : d < 3) (he : e < 3) : (nmOf i d).cps.toList < (nmOf (i + 1) e).cps.toList := nm_lt_all ⟨i, hi⟩ ⟨d, hd⟩ ⟨e, he⟩
theorem nm_len_all : ∀ d : Fin 3, (Txt.mul "a" (d : Nat)).length ≤ 2 := by decide +kernel
theorem nm_len {d : Nat} (h : d < 3) : (Txt.mul "a" (d : Int)).length ≤ 2 := nm_len_all ⟨d, h⟩
def Ul (ul : List Unk) : Prop := ∀ i u, ul[i]? = some u → ∃ d : Nat, d < 3 ∧ u.1 = nmOf i d ∧ u.2.1 ≤ u.2.2
theorem Ul.nil : Ul [] := fun i u h => by simp at h
theorem Ul.app {ul : List Unk} {d : Nat} {lo hi : Int} (h : Ul ul) (hd : d < 3) (le : lo ≤ hi) : Ul (ul ++ [(nmOf ul.length d, lo, hi)]) := fun i u e => by
  by_cases c : i < ul.length
  · rw [List.getElem?_append_left c] at e; exact h i u e
  · rw [List.getElem?_append_right (by omega)] at e
    by_cases z : i - ul.length = 0
    · rw [z] at e
      cases e
      have : i = ul.length := by omega
      subst this
      exact ⟨d, hd, rfl, le⟩
    · obtain ⟨k, hk⟩ : ∃ k, i - ul.length = k + 1 := ⟨i - ul.length - 1, by omega⟩
      rw [hk] at e; simp at e
theorem Ul.ok {ul : List Unk} (h : Ul ul) (l1 : 1 ≤ ul.length) (l6 : ul.length ≤ 6) : UnkOk ul := by
  refine ⟨l1, by omega, fun u hu => ?_, fun u hu => ?_, fun i u v hu hv => ?_⟩
  · obtain ⟨i, hi, e⟩ := List.getElem_of_mem hu
    obtain ⟨d, hd, e1, _⟩ := h i u (by rw [List.getElem?_eq_getElem hi, e])
    rw [e1]; exact nm_ok (by omega) hd
  · obtain ⟨i, hi, e⟩ := List.getElem_of_mem hu
    obtain ⟨d, hd, _, e2⟩ := h i u (by rw [List.getElem?_eq_getElem hi, e])
    exact e2
  · obtain ⟨d, hd, e1, _⟩ := h i u hu
    obtain ⟨d', hd', e1', _⟩ := h (i + 1) v hv
    rw [e1, e1']
    exact nm_lt (by have := (List.getElem?_eq_some_iff.mp hv).1; omega) hd hd'
theorem int_of {v : V} {ns : List Int} (h : v ∈ ns.map V.int) : ∃ z ∈ ns, v = .int z := by
  obtain ⟨z, hz, rfl⟩ := List.mem_map.mp h
  exact ⟨z, hz, rfl⟩
/-! ### places but one -/
theorem inc_range {n : Nat} (f : Nat → Bool) : Inc (((List.range n).filter f).map (fun i : Nat => (i : Int))) := by
  have s : (((List.range n).filter f)).Pairwise (· < ·) := List.Pairwise.filter _ List.pairwise_lt_range
  intro i x y hx hy
  rw [List.getElem?_map] at hx hy
  obtain ⟨a, ha, rfl⟩ := Option.map_eq_some_iff.mp hx
  obtain ⟨b, hb, rfl⟩ := Option.map_eq_some_iff.mp hy
  obtain ⟨la, ea⟩ := List.getElem?_eq_some_iff.mp ha
  obtain ⟨lb, eb⟩ := List.getElem?_eq_some_iff.mp hb
  have := List.pairwise_iff_getElem.mp s i (i + 1) la lb (by omega)
  rw [ea, eb] at this
  show (a : Int) < (b : Int)
  omega
theorem within_range {n : Nat} (f : Nat → Bool) : Within n (((List.range n).filter f).map (fun i : Nat => (i : Int))) := fun c hc => by
  obtain ⟨i, hi, rfl⟩ := List.mem_map.mp hc
  have := List.mem_range.mp ((List.mem_filter.mp hi).1)
  exact ⟨by omega, by omega⟩
theorem len_but {n : Nat} (g : Int) : n ≤ ((List.range n).filter (fun i : Nat => decide ((i : Int) ≠ g))).length + 1 := by
  induction n with
  | zero => exact Nat.zero_le _
  | succ n ih =>
    rw [List.range_succ, List.filter_append, List.length_append]
    by_cases c : (n : Int) ≠ g
    · rw [List.filter_cons_of_pos (by simpa using c)]
      show n + 1 ≤ _ + 1 + 1
      omega
    · have e : ((List.range n).filter (fun i : Nat => decide ((i : Int) ≠ g))) = List.range n := by
        refine List.filter_eq_self.mpr fun i hi => ?_
        have := List.mem_range.mp hi
        exact decide_eq_true (by omega)
      rw [e, List.length_range]; omega
theorem len_none {n : Nat} {g : Int} (h : g < 0) : ((List.range n).filter (fun i : Nat => decide ((i : Int) ≠ g))).length = n := by
  rw [List.filter_eq_self.mpr fun i hi => decide_eq_true (by omega), List.length_range]
theorem len_all {n : Nat} (f : Nat → Bool) : ((List.range n).filter f).length ≤ n := by
  have := List.length_filter_le f (List.range n)
  rw [List.length_range] at this; exact this
theorem len_one {n : Nat} {g : Int} (h0 : 0 ≤ g) (h1 : g < n) : ((List.range n).filter (fun i : Nat => decide ((i : Int) ≠ g))).length + 1 = n := by
  have a := len_but (n := n) g
  have b : ((List.range n).filter (fun i : Nat => decide ((i : Int) ≠ g))).length ≠ n := fun e => by
    have e2 : ((List.range n).filter (fun i : Nat => decide ((i : Int) ≠ g))).length = (List.range n).length := by rw [e, List.length_range]
    have e3 := List.length_filter_eq_length_iff.mp e2 g.toNat (List.mem_range.mpr (by omega))
    have := of_decide_eq_true e3
    omega
  have c := len_all (n := n) (fun i : Nat => decide ((i : Int) ≠ g))
  omega
/-- a task made, its bench and a box -/
structure Made (C : Addr) (H : Hp) (tv bv : V) (k : Nat) (ul : List Unk) (wl : List Wish) (goal : List Int) (js box : List (List Int)) : Prop where
  tv : TaskV C H tv ul wl goal
  wk : wl[k]? = some (.bench js)
  jo : JobsOk ul.length 2 js
  few : js.length ≤ 5
  bv : JV H bv box
  bo : BoxOk ul.length box
  uo : UnkOk ul
  wo : ∀ z ∈ wl, WishOk ul.length z
  lg : goal.length = ul.length
  l6 : ul.length ≤ 6
  bx : ∀ r ∈ box, ∀ c ∈ r, -5 ≤ c ∧ c ≤ 15
  jl : ∀ j ∈ js, j.getD 1 0 ≤ 10
theorem getD_in {a : Nat} {r : List Int} (h : ∀ c ∈ r, -5 ≤ c ∧ c ≤ 15) : -5 ≤ r.getD a 0 ∧ r.getD a 0 ≤ 15 := by
  rw [List.getD_eq_getElem?_getD]
  cases e : r[a]? with
  | none => show -5 ≤ (0 : Int) ∧ (0 : Int) ≤ 15; omega
  | some c => exact h c (List.mem_of_getElem? e)
theorem win_small {box js : List (List Int)} (bx : ∀ r ∈ box, ∀ c ∈ r, -5 ≤ c ∧ c ≤ 15) (jl : ∀ j ∈ js, j.getD 1 0 ≤ 10) {w : Win} (h : w ∈ js.map (winOf box)) : (-5 ≤ w.1 ∧ w.1 ≤ 15) ∧ (-5 ≤ w.2.1 ∧ w.2.1 ≤ 15) ∧ w.2.2.1 ≤ 10 := by
  obtain ⟨j, hj, rfl⟩ := List.mem_map.mp h
  have g : ∀ c ∈ box.getD (placeOf j).toNat [], -5 ≤ c ∧ c ≤ 15 := by
    rw [List.getD_eq_getElem?_getD]
    cases e : box[(placeOf j).toNat]? with
    | none => intro c hc; cases hc
    | some r => exact bx r (List.mem_of_getElem? e)
  exact ⟨getD_in g, getD_in g, jl j hj⟩
theorem win_lens {n : Nat} {box js : List (List Int)} (jo : JobsOk n 2 js) : LenOk (js.map (winOf box)) := fun w h => by
  obtain ⟨j, hj, rfl⟩ := List.mem_map.mp h
  obtain ⟨a, l, rfl⟩ := two_of (jo.len j hj)
  exact jo.one _ hj l (List.mem_cons_self ..)
end M63

namespace M63
open PySem PySem.Spec PyProof.Rows L2 SX Own Gd
open C8 (Cal pe_c pe_gc pe_mk Mak pss_cut)
theorem inc01 : Inc [0, 1] := fun i x y hx hy => by
  cases i with
  | zero =>
    cases hx
    cases hy
    decide
  | succ i => simp at hy
theorem rep0 (n : Nat) : (List.replicate n [V.int 0]).flatten = (List.replicate n (0 : Int)).map V.int := by
  induction n with
  | zero => rfl
  | succ n ih => rw [List.replicate_succ, List.flatten_cons, ih, List.replicate_succ]; rfl
structure LoopA (H H' : Hp) (h q l1 l2 : Addr) (us bs : List V) (ul : List Unk) (box : List (List Int)) (i j : Nat) : Prop where
  a : HpAt H' h q
  kp : Kpt h q H H'
  e1 : H' l1 = some (.lst us)
  e2 : H' l2 = some (.lst bs)
  uv : UVs H' us ul
  lv : LVs H' bs box
  u : Ul ul
  two : ∀ r ∈ box, r.length = 2 ∧ ∀ c ∈ r, -5 ≤ c ∧ c ≤ 15
  lu : ul.length = i
  lb : box.length = j
theorem LoopA.to {H H1 H2 : Hp} {h q l1 l2 : Addr} {us bs : List V} {ul : List Unk} {box : List (List Int)} {i j : Nat} (g : LoopA H H1 h q l1 l2 us bs ul box i j) (k : Kpt h q H1 H2) (a : HpAt H2 h q) (n1 : l1 ≠ h ∧ l1 ≠ q) (n2 : l2 ≠ h ∧ l2 ≠ q) : LoopA H H2 h q l1 l2 us bs ul box i j :=
  have tk := TK.kp k g.a
  ⟨a, g.kp.trans k, k _ _ g.e1 n1.1 n1.2, k _ _ g.e2 n2.1 n2.2, g.uv.tk tk, g.lv.tk tk, g.u, g.two, g.lu, g.lb⟩
theorem LoopA.app1 {H H1 : Hp} {h q l1 l2 t : Addr} {us bs : List V} {ul : List Unk} {box : List (List Int)} {i j e : Nat} {lo hi : Int} (g : LoopA H H1 h q l1 l2 us bs ul box i j) (et : H1 t = some (.tup [.str (nmOf i e), .int lo, .int hi])) (he : e < 3) (le : lo ≤ hi) (n0 : H l1 = none) (n1 : l1 ≠ h ∧ l1 ≠ q) (ne : l1 ≠ l2) :
    LoopA H (upd H1 l1 (.lst (us ++ [.ref t]))) h q l1 l2 (us ++ [.ref t]) bs (ul ++ [(nmOf i e, lo, hi)]) box (i + 1) j := by
  have tk : TK H1 (upd H1 l1 (.lst (us ++ [.ref t]))) := TK.put g.e1
  refine ⟨g.a.upd n1.1 n1.2, g.kp.at_new n0, upd_same, by rw [upd_ne ne.symm]; exact g.e2, (g.uv.tk tk).app ⟨t, rfl, tk _ _ et⟩, g.lv.tk tk, ?_, g.two, by rw [List.length_append, g.lu]; rfl, g.lb⟩
  have := g.u.app he le
  rw [g.lu] at this
  exact this
theorem LoopA.app2 {H H1 : Hp} {h q l1 l2 t : Addr} {us bs : List V} {ul : List Unk} {box : List (List Int)} {i j : Nat} {lo hi : Int} (g : LoopA H H1 h q l1 l2 us bs ul box i j) (et : H1 t = some (.tup [.int lo, .int hi])) (n0 : H l2 = none) (n1 : l2 ≠ h ∧ l2 ≠ q) (ne : l1 ≠ l2) (b1 : -5 ≤ lo ∧ lo ≤ 15) (b2 : -5 ≤ hi ∧ hi ≤ 15) :
    LoopA H (upd H1 l2 (.lst (bs ++ [.ref t]))) h q l1 l2 us (bs ++ [.ref t]) ul (box ++ [[lo, hi]]) i (j + 1) := by
  have tk : TK H1 (upd H1 l2 (.lst (bs ++ [.ref t]))) := TK.put g.e2
  refine ⟨g.a.upd n1.1 n1.2, g.kp.at_new n0, by rw [upd_ne ne]; exact g.e1, upd_same, g.uv.tk tk, (g.lv.tk tk).app (.cons ⟨t, rfl, tk _ _ et⟩ .nil), g.u, fun r hr => ?_, g.lu, by rw [List.length_append, g.lb]; rfl⟩
  rcases List.mem_append.mp hr with z | z
  · exact g.two r z
  · rw [List.mem_singleton.mp z]
    refine ⟨rfl, fun c hc => ?_⟩
    rcases List.mem_cons.mp hc with rfl | hc
    · exact b1
    · rw [List.mem_singleton.mp hc]; exact b2
theorem at_letter : ∀ i : Fin 6, ("bdfhjlnprtvxz" : Str).cps.toList[i.val]? = some (letterC i) := by decide +kernel
section
variable {P : Program} {w : World} {K : PySem.W.Frag} {mg : Str → Option Value} {base : Heap} {aW aT : Addr} {es : Array DictEntry} {nn : Nat}
abbrev s_Ltask : Stmt := topS 43
abbrev n_Ltask : List Str := ["heap", "kind", "many", "size", "spare", "letters", "unknowns", "box", "at", "low", "high", "first", "gone", "places", "jobs", "place", "length", "wish", "alike", "k", "other", "wishes"]
theorem sc_Ltask : FnScope n_Ltask ["heap", "kind"] (defScope s_Ltask) := ⟨rfl, rfl, rfl, by decide +kernel, rfl, by decide +kernel, by decide +kernel⟩
def spLTask (C : Addr) : Sp := fun vs H Q _ => ∃ (h q : Addr), vs = [.ref h, .str "bench"] ∧ HpAt H h q ∧ ∀ p tv bv k ul wl goal js box H', H' p = some (.tup [tv, .int (k : Int), bv]) → Made C H' tv bv k ul wl goal js box → HpAt H' h q → Kpt h q H H' → Q (.ref p) H'
theorem ok_Ltask {f C : Addr} {fd : FuncData} (F : Fun K "_law_task" "_law_task" s_Ltask f fd) (T : Txt K mg w aW aT es nn) (c_Ldraw : Cal P w K mg base 1 "_law_draw" spDraw []) (c_Lpick : Cal P w K mg base 2 "_law_pick" spPickL []) (m_Task : Mak P w K mg base 8 "Task" C (spTask C) []) : FnOk P w K mg base CX0 10 f fd ["heap", "kind"] (spLTask C) := by
  refine F.ok sc_Ltask (fun vs H Q E h => ?_) (fun cdv A outer s0 H vs Q E hr h => ?_)
  · obtain ⟨h, q, rfl, _⟩ := h
    rfl
  · obtain ⟨h, q, rfl, a0, fin⟩ := h
    refine ⟨_, (pss_cons (ps_set (i := 2) sc_Ltask.nd rfl (.inl rfl) (pe_c c_Lpick hr (by decide) (by rfl) (pa_cons (pv 0) (pa_cons (pe_lst (pa_cons pe_int (pa_cons pe_int (pa_cons pe_int (pa_cons pe_int (pa_cons pe_int (pa_cons pe_int pa_nil))))))) pa_nil))))
      (pss_cons (ps_par (i := 3) (j := 4) (by rfl) sc_Ltask.nd rfl rfl (by decide) rfl rfl (pa_cons (pe_ifExp (pt_cmpR op_eq (pv 1) pe_str (nomark _)) pe_int (pe_op op_add pe_int (pe_c c_Ldraw hr (by decide) (by rfl) (pa_cons (pv 0) (pa_cons pe_int pa_nil))))) (pa_cons (pe_c c_Ldraw hr (by decide) (by rfl) (pa_cons (pv 0) (pa_cons pe_int pa_nil))) pa_nil)) (by rfl))
      (pss_cons (ps_par3 (i := 5) (j := 6) (l := 7) (by rfl) sc_Ltask.nd rfl rfl rfl (by decide) (by decide) (by decide) rfl rfl rfl (pa_cons pe_str (pa_cons (pe_lst pa_nil) (pa_cons (pe_lst pa_nil) pa_nil))) (by rfl))
      (pss_cut (ps_for PassesOwn.never rfl (pi_range1 (by rfl) T.b_range (pa_cons (pe_op op_add (pv 2) (pv 4)) pa_nil)) (pg_name (i := 8) sc_Ltask.nd rfl (.inl rfl)) (pss_cons (ps_set (i := 9) sc_Ltask.nd rfl (.inl rfl) (pe_op op_sub (pe_c c_Ldraw hr (by decide) (by rfl) (pa_cons (pv 0) (pa_cons pe_int pa_nil))) pe_int))
        (pss_cons (ps_set (i := 10) sc_Ltask.nd rfl (.inl rfl) (pe_op op_add (pv 9) (pe_c c_Lpick hr (by decide) (by rfl) (pa_cons (pv 0) (pa_cons (pe_lst (pa_cons pe_int (pa_cons pe_int (pa_cons pe_int (pa_cons pe_int (pa_cons pe_int (pa_cons pe_int pa_nil))))))) pa_nil)))))
        (pss_cons (ps_expr (pe_bm PySem.F.plainAttrs_list PySem.F.slot_list_append PySem.F.type_list_append mt_append (pv 6) (pa_cons (pe_tup (pa_cons (pe_op op_add_str (pe_ix ix_str (pv 5) (pv 8) (fun _ _ => rfl)) (pe_op op_mulA pe_str (pe_c c_Ldraw hr (by decide) (by rfl) (pa_cons (pv 0) (pa_cons pe_int pa_nil))))) (pa_cons (pv 9) (pa_cons (pv 10) pa_nil)))) pa_nil)))
        (pss_cons (ps_set (i := 11) sc_Ltask.nd rfl (.inl rfl) (pe_op op_add (pv 9) (pe_c c_Ldraw hr (by decide) (by rfl) (pa_cons (pv 0) (pa_cons (pe_callB (call_min2 rfl) (by rfl) T.b_min (by decide +kernel) (pa_cons pe_int (pa_cons (pe_op op_add (pe_op op_sub (pv 10) (pv 9)) pe_int) pa_nil))) pa_nil)))))
        (pss_one (ps_expr (pe_bm PySem.F.plainAttrs_list PySem.F.slot_list_append PySem.F.type_list_append mt_append (pv 7) (pa_cons (pe_tup (pa_cons (pv 11) (pa_cons (pe_op op_sub (pv 10) (pe_c c_Ldraw hr (by decide) (by rfl) (pa_cons (pv 0) (pa_cons (pe_callB (call_min2 rfl) (by rfl) T.b_min (by decide +kernel) (pa_cons pe_int (pa_cons (pe_op op_add (pe_op op_sub (pv 10) (pv 11)) pe_int) pa_nil))) pa_nil)))) pa_nil))) pa_nil)))))))))
      (pss_cut (ps_set (i := 12) sc_Ltask.nd rfl (.inr rfl) (pe_ifExp (pt_cmpR op_gt (pv 4) pe_int (nomark _)) (pe_c c_Ldraw hr (by decide) (by rfl) (pa_cons (pv 0) (pa_cons (pe_op op_add (pv 2) (pv 4)) pa_nil))) (pe_op op_sub pe_int pe_int)))
      (pss_cons (ps_par (i := 13) (j := 14) (by rfl) sc_Ltask.nd rfl rfl (by decide) rfl rfl (pa_cons (pe_lc (own := [("at", 8)]) rfl sc_Ltask.nd (pi_range1 (by rfl) T.b_range (pa_cons (pe_op op_add (pv 2) (pv 4)) pa_nil)) (blkOk_by (N := n_Ltask) (sc := defScope s_Ltask) (by decide +kernel)) (fun _ _ _ _ _ => (pg_name (i := 8) sc_Ltask.nd rfl (.inl rfl))) (fun _ _ _ _ _ => (pts_one (pt_cmpR op_ne (pv 8) (pv 12) (nomark _)))) (fun _ _ _ _ _ => (pv 8))) (pa_cons (pe_lst pa_nil) pa_nil)) (by rfl))
      (pss_cut (ps_for PassesOwn.never rfl (pi_list (pv 13)) (pg_name (i := 15) sc_Ltask.nd rfl (.inl rfl)) (pss_cons (ps_set (i := 16) sc_Ltask.nd rfl (.inl rfl) (pe_op op_add pe_int (pe_c c_Lpick hr (by decide) (by rfl) (pa_cons (pv 0) (pa_cons (pe_lst (pa_cons pe_int (pa_cons pe_int (pa_cons pe_int (pa_cons pe_int (pa_cons pe_int (pa_cons pe_int pa_nil))))))) pa_nil)))))
        (pss_one (ps_expr (pe_bm PySem.F.plainAttrs_list PySem.F.slot_list_append PySem.F.type_list_append mt_append (pv 14) (pa_cons (pe_ifExp (pt_cmpR op_eq (pv 1) pe_str (nomark _)) (pe_tup (pa_cons (pv 15) (pa_cons (pv 16) pa_nil))) (pe_tup (pa_cons (pv 15) (pa_cons (pv 16) (pa_cons (pe_op op_add pe_int (pe_c c_Ldraw hr (by decide) (by rfl) (pa_cons (pv 0) (pa_cons (pv 3) pa_nil)))) pa_nil))))) pa_nil))))))
      (pss_cons (ps_set (i := 17) sc_Ltask.nd rfl (.inl rfl) (pe_ifExp (pt_cmpR op_eq (pv 1) pe_str (nomark _)) (pe_tup (pa_cons (pv 1) (pa_cons (pe_callTy call_tuple_of (by rfl) T.b_tuple (by decide +kernel) (pa_cons (pv 14) pa_nil)) pa_nil))) (pe_tup (pa_cons (pv 1) (pa_cons (pe_callTy call_tuple_of (by rfl) T.b_tuple (by decide +kernel) (pa_cons (pv 14) pa_nil)) (pa_cons (pv 3) pa_nil))))))
      (pss_cons (ps_set (i := 18) sc_Ltask.nd rfl (.inl rfl) (pe_ifExp (pt_cmpR op_eq (pv 1) pe_str (nomark _)) (pe_tup (pa_cons pe_str (pa_cons (pe_tup (pa_cons (pe_tup (pa_cons pe_int (pa_cons pe_int pa_nil))) (pa_cons (pe_tup (pa_cons pe_int (pa_cons pe_int pa_nil))) pa_nil))) pa_nil))) (pe_tup (pa_cons pe_str (pa_cons (pe_tup (pa_cons (pe_tup (pa_cons pe_int (pa_cons pe_int (pa_cons pe_int pa_nil)))) (pa_cons (pe_tup (pa_cons pe_int (pa_cons pe_int (pa_cons pe_int pa_nil)))) pa_nil))) (pa_cons pe_int pa_nil))))))
      (pss_cons (ps_par (i := 19) (j := 20) (by rfl) sc_Ltask.nd rfl rfl (by decide) rfl rfl (pa_cons (pe_c c_Ldraw hr (by decide) (by rfl) (pa_cons (pv 0) (pa_cons pe_int pa_nil))) (pa_cons (pe_c c_Lpick hr (by decide) (by rfl) (pa_cons (pv 0) (pa_cons (pe_lst (pa_cons (pe_tup (pa_cons pe_str (pa_cons (pe_tup (pa_cons pe_int (pa_cons pe_int pa_nil))) pa_nil))) (pa_cons (pv 18) pa_nil))) pa_nil))) pa_nil)) (by rfl))
      (pss_cons (ps_set (i := 21) sc_Ltask.nd rfl (.inl rfl) (pe_ix ix_list (pe_lst (pa_cons (pe_tup (pa_cons (pv 17) (pa_cons (pv 20) pa_nil))) (pa_cons (pe_tup (pa_cons (pv 20) (pa_cons (pv 17) pa_nil))) pa_nil))) (pv 19) (fun _ _ => rfl)))
      (pss_one (ps_ret (pe_tup (pa_cons (pe_mk m_Task hr (by decide) (by rfl) (pa_cons (pe_callTy call_tuple_of (by rfl) T.b_tuple (by decide +kernel) (pa_cons (pv 6) pa_nil)) (pa_cons (pv 21) (pa_cons (pe_op op_repT (pe_tup (pa_cons pe_int pa_nil)) (pe_callB call_len_seq (by rfl) T.b_len (by decide +kernel) (pa_cons (pv 6) pa_nil))) pa_nil)))) (pa_cons (pv 19) (pa_cons (pe_callTy call_tuple_of (by rfl) T.b_tuple (by decide +kernel) (pa_cons (pv 7) pa_nil)) pa_nil))))))))))))))))), ?_⟩
    refine ⟨_, rfl, len6, fun p1 n1 => ?_⟩
    have k1 := same_upd (o := .lst [.int 3, .int 2, .int 4, .int 3, .int 5, .int 3]) n1
    obtain ⟨f1, f2⟩ := a0.fresh n1
    refine ⟨h, q, p1, _, rfl, a0.same k1, upd_same, f1, f2, by simp, by decide, fun v1 H1 m1 a1 kp1 => ?_⟩
    obtain ⟨many, hm, rfl⟩ := int_of (ns := [3, 2, 4, 3, 5, 3]) m1
    have bm := (by decide : ∀ z ∈ ([3, 2, 4, 3, 5, 3] : List Int), 2 ≤ z ∧ z ≤ 5) many hm
    have kp1 := (Kpt.of_same (h := h) (q := q) k1).trans kp1
    refine ⟨_, rfl, rfl, _, rfl, iteT ?_⟩
    refine ⟨_, rfl, h, q, 2, rfl, a1, by decide, by decide, fun spare H2 s0 s1 a2 kp2 => ?_⟩
    refine ⟨_, _, rfl, ?_⟩
    refine ⟨nil_ok, fun l1 nl1 => ⟨nil_ok, fun l2 nl2 => ⟨_, _, _, rfl, ?_⟩⟩⟩
    obtain ⟨n, hn, bn0, bn1⟩ : ∃ n : Nat, many + spare = (n : Int) ∧ 2 ≤ n ∧ n ≤ 6 := ⟨(many + spare).toNat, by omega, by omega, by omega⟩
    have kp2 := kp1.trans kp2
    have g1 := a2.fresh nl1
    have j1 := a2.upd (o := .lst []) g1.1 g1.2
    have g2 := j1.fresh nl2
    have ne12 : l1 ≠ l2 := fun e => by rw [← e, upd_same] at nl2; cases nl2
    have f1H := kp2.free nl1 g1.1 g1.2
    have f2H := (kp2.at_new f1H).free nl2 g2.1 g2.2
    refine ⟨fun σ H' => ∃ us bs ul box y8 y9 y10 y11, σ = [some (.ref h), some (.str "bench"), some (.int many), some (.int 1), some (.int spare), some (.str "bdfhjlnprtvxz"), some (.ref l1), some (.ref l2), y8, y9, y10, y11, none, none, none, none, none, none, none, none, none, none] ∧ LoopA H H' h q l1 l2 us bs ul box n n, ?_, fun σ H3 hM => ?_⟩
    · refine ⟨_, rfl, _, rfl, _, _, rfl, rfl, ?_⟩
      rw [show (fun i j => V.int (i + j)) many spare = V.int (n : Int) from congrArg V.int hn]
      refine ⟨(n : Int), rfl, by omega, by omega, for_range (lo := 0) (n := ((n : Int)).toNat) (fun i σ H' => ∃ us bs ul box y8 y9 y10 y11, σ = [some (.ref h), some (.str "bench"), some (.int many), some (.int 1), some (.int spare), some (.str "bdfhjlnprtvxz"), some (.ref l1), some (.ref l2), y8, y9, y10, y11, none, none, none, none, none, none, none, none, none, none] ∧ LoopA H H' h q l1 l2 us bs ul box i i)
        ⟨[], [], [], [], none, none, none, none, rfl, ?_, ?_, ?_, upd_same, .nil, .nil, Ul.nil, by simp, rfl, rfl⟩ (fun i σ H3 hi hI => ?_) (fun σ H3 hI => ?_)⟩
      · exact j1.upd g2.1 g2.2
      · exact (kp2.at_new f1H).at_new f2H
      · rw [upd_ne ne12]; exact upd_same
      · obtain ⟨us, bs, ul, box, y8, y9, y10, y11, rfl, g⟩ := hI
        rw [show ((0 : Int) + (i : Nat)) = (i : Int) by omega]
        rw [Int.toNat_natCast] at hi
        have i6 : i < 6 := by omega
        have N1 : l1 ≠ h ∧ l1 ≠ q := g1
        have N2 : l2 ≠ h ∧ l2 ≠ q := g2
        -- low and high
        refine ⟨_, rfl, h, q, 9, rfl, g.a, by decide, by decide, fun d1 H4 d10 d11 a4 kp4 => ?_⟩
        have g := g.to kp4 a4 N1 N2
        refine ⟨_, _, rfl, rfl, ?_⟩
        have hl : -3 ≤ d1 - 3 ∧ d1 - 3 ≤ 5 := by omega
        show tSeq _ _ _ ((_ : L2.St).set 9 (some (.int (d1 - 3)))) _
        generalize d1 - 3 = low at *
        refine ⟨_, rfl, _, rfl, len6, fun p5 np5 => ?_⟩
        have k5 := same_upd (o := .lst [.int 4, .int 0, .int 2, .int 6, .int 8, .int 3]) np5
        obtain ⟨f1, f2⟩ := g.a.fresh np5
        have g := g.to (.of_same k5) (g.a.same k5) N1 N2
        refine ⟨h, q, p5, _, rfl, g.a, upd_same, f1, f2, by simp, by decide, fun v6 H6 m6 a6 kp6 => ?_⟩
        obtain ⟨d2, hd2, rfl⟩ := int_of (ns := [4, 0, 2, 6, 8, 3]) m6
        have b2 := (by decide : ∀ z ∈ ([4, 0, 2, 6, 8, 3] : List Int), 0 ≤ z ∧ z ≤ 8) d2 hd2
        have g := g.to kp6 a6 N1 N2
        refine ⟨_, _, rfl, rfl, ?_⟩
        have hh : low ≤ low + d2 ∧ low + d2 ≤ 13 := by omega
        show tSeq _ _ _ ((_ : L2.St).set 10 (some (.int (low + d2)))) _
        generalize low + d2 = high at *
        -- the name
        refine ⟨_, rfl, .inl ⟨rfl, _, sq_lst g.e1⟩, _, rfl, _, rfl, ("bdfhjlnprtvxz" : Str), (i : Int), letterC i, rfl, rfl, by decide, ?_, _, rfl, h, q, 3, rfl, g.a, by decide, by decide, fun d3 H7 d30 d31 a7 kp7 => ?_⟩
        · exact atI_nat (at_letter ⟨i, i6⟩)
        obtain ⟨e, rfl⟩ : ∃ e : Nat, d3 = (e : Int) := ⟨d3.toNat, by omega⟩
        have he : e < 3 := by omega
        have g := g.to kp7 a7 N1 N2
        refine ⟨_, e, rfl, rfl, by decide, by omega, _, _, rfl, rfl, ?_, ?_⟩
        · have := nm_len he
          rw [sizeLine_eq]
          show 1 + _ ≤ _
          omega
        rw [show (⟨#[letterC i]⟩ : Str) ++ Txt.mul "a" (e : Int) = nmOf i e from rfl]
        refine ⟨_, rfl, _, rfl, len3, fun t nt => ?_⟩
        have kt := same_upd (o := .tup [.str (nmOf i e), .int low, .int high]) nt
        have g := g.to (.of_same kt) (g.a.same kt) N1 N2
        have et : upd H7 t (.tup [.str (nmOf i e), .int low, .int high]) t = some (.tup [.str (nmOf i e), .int low, .int high]) := upd_same
        generalize upd H7 t (.tup [.str (nmOf i e), .int low, .int high]) = H8 at *
        have lus := g.uv.len
        have lbs := g.lv.len
        have lul := g.lu
        have lbx := g.lb
        refine ⟨l1, _, _, rfl, rfl, g.e1, small1000 (by omega), ?_⟩
        have g := g.app1 et he hh.1 f1H N1 ne12
        generalize upd H8 l1 (.lst (us ++ [.ref t])) = H9 at *
        -- first
        refine ⟨_, rfl, _, rfl, _, rfl, _, rfl, _, _, rfl, rfl, _, _, rfl, rfl, _, _, rfl, ?_⟩
        obtain ⟨m, hm, m1, m3⟩ : ∃ m : Int, (if high - low + 1 < 3 then high - low + 1 else 3) = m ∧ 1 ≤ m ∧ m ≤ high - low + 1 ∧ m ≤ 3 := ⟨_, rfl, by split <;> omega, by split <;> omega, by split <;> omega⟩
        rw [hm]
        refine ⟨h, q, m, rfl, g.a, by omega, by omega, fun d5 H10 d50 d51 a10 kp10 => ?_⟩
        have g := g.to kp10 a10 N1 N2
        refine ⟨_, _, rfl, rfl, ?_⟩
        have hf : low + d5 ≤ high := by omega
        refine ⟨_, rfl, .inl ⟨rfl, _, sq_lst g.e2⟩, _, rfl, _, rfl, _, rfl, _, rfl, _, rfl, _, _, rfl, rfl, _, _, rfl, rfl, _, _, rfl, ?_⟩
        obtain ⟨m', hm', m1', m3'⟩ : ∃ m : Int, (if high - (low + d5) + 1 < 3 then high - (low + d5) + 1 else 3) = m ∧ 1 ≤ m ∧ m ≤ 3 := ⟨_, rfl, by split <;> omega, by split <;> omega⟩
        rw [hm']
        refine ⟨h, q, m', rfl, g.a, by omega, by omega, fun d6 H11 d60 d61 a11 kp11 => ?_⟩
        have g := g.to kp11 a11 N1 N2
        refine ⟨_, _, rfl, rfl, len2, fun t2 nt2 => ?_⟩
        have kt2 := same_upd (o := .tup [.int (low + d5), .int (high - d6)]) nt2
        have g := g.to (.of_same kt2) (g.a.same kt2) N1 N2
        refine ⟨l2, _, _, rfl, rfl, g.e2, small1000 (by omega), ?_⟩
        have g := g.app2 (lo := low + d5) (hi := high - d6) upd_same f2H N2 ne12 (by omega) (by omega)
        exact ⟨_, _, _, _, _, _, _, _, rfl, g⟩
      · rw [Int.toNat_natCast] at hI
        exact hI
    obtain ⟨us, bs, ul, box, y8, y9, y10, y11, rfl, g⟩ := hM
    obtain ⟨m, rfl⟩ : ∃ m : Nat, many = (m : Int) := ⟨many.toNat, by omega⟩
    refine ⟨fun σ H' => ∃ gone : Int, σ = [some (.ref h), some (.str "bench"), some (.int (m : Int)), some (.int 1), some (.int spare), some (.str "bdfhjlnprtvxz"), some (.ref l1), some (.ref l2), y8, y9, y10, y11, some (.int gone), none, none, none, none, none, none, none, none, none] ∧ LoopA H H' h q l1 l2 us bs ul box n n ∧ ((List.range n).filter (fun i : Nat => decide ((i : Int) ≠ gone))).length = m, ?_, fun σ H4 hM => ?_⟩
    · refine ⟨_, rfl, _, _, rfl, rfl, _, rfl, ite2 (fun h1 => ?_) (fun h1 => ?_)⟩
      · have h1 : 0 < spare := of_decide_eq_true h1
        refine ⟨_, rfl, _, rfl, _, rfl, _, _, rfl, rfl, h, q, _, rfl, g.a, by omega, by omega, fun d H4 d0 d1 a4 kp4 => ?_⟩
        exact ⟨d, rfl, g.to kp4 a4 g1 g2, by have := len_one (n := n) (g := d) d0 (by omega); omega⟩
      · have h1 : ¬ 0 < spare := fun z => h1 (decide_eq_true z)
        refine ⟨_, _, rfl, rfl, -1, rfl, g, ?_⟩
        rw [len_none (by decide)]; omega
    obtain ⟨gone, rfl, g, lm⟩ := hM
    generalize hpl : (List.range n).filter (fun i : Nat => decide ((i : Int) ≠ gone)) = pl at *
    refine ⟨_, rfl, _, rfl, _, _, rfl, rfl, ?_⟩
    rw [show (fun i j => V.int (i + j)) (m : Int) spare = V.int (n : Int) from congrArg V.int hn]
    refine ⟨(n : Int), rfl, by omega, by omega, fun D nD => ?_⟩
    refine lc_range (lo := 0) (n := ((n : Int)).toNat) (fun i H' => H' D = some (.lst ((((List.range i).filter (fun i : Nat => decide ((i : Int) ≠ gone))).map (fun i : Nat => (i : Int))).map V.int)) ∧ Same H4 H') ⟨upd_same, same_upd nD⟩ (fun i H5 hi hI => ?_) (fun H5 hI => ?_)
    · obtain ⟨hD, sm⟩ := hI
      rw [show ((0 : Int) + (i : Nat)) = (i : Int) by omega]
      refine ⟨rfl, _, rfl, _, rfl, rfl, _, rfl, ite2 (fun hc => ?_) (fun hc => ?_)⟩
      · have hc : (i : Int) ≠ gone := fun z => by rw [z] at hc; simp at hc
        refine ⟨_, rfl, _, hD, ?_, ?_, same_at sm nD⟩
        · rw [List.length_map, List.length_map]
          have := len_all (n := i) (fun i : Nat => decide ((i : Int) ≠ gone))
          exact small1000 (by rw [Int.toNat_natCast] at hi; omega)
        · rw [upd_same, List.range_succ, List.filter_append, List.filter_cons_of_pos (by simpa using hc), List.map_append, List.map_append]; rfl
      · have hc : (i : Int) = gone := Classical.byContradiction fun z => hc (by simpa using z)
        refine ⟨?_, sm⟩
        rw [List.range_succ, List.filter_append, List.filter_cons_of_neg (by simpa using hc), List.filter_nil, List.append_nil]; exact hD
    rw [Int.toNat_natCast, hpl] at hI
    obtain ⟨hD, s5⟩ := hI
    have gD := g.a.fresh nD
    have g := g.to (.of_same s5) (g.a.same s5) g1 g2
    refine ⟨nil_ok, fun l3 nl3 => ⟨_, _, rfl, ?_⟩⟩
    have g3 := g.a.fresh nl3
    have lpl : (pl.map (fun i : Nat => (i : Int))).length = m := by rw [List.length_map, lm]
    have inc := hpl ▸ inc_range (n := n) (fun i : Nat => decide ((i : Int) ≠ gone))
    have wi := hpl ▸ within_range (n := n) (fun i : Nat => decide ((i : Int) ≠ gone))
    generalize pl.map (fun i : Nat => (i : Int)) = ps at *
    have nDl : D ≠ l3 := ne_of_none hD nl3
    refine ⟨fun σ H' => ∃ jl js y15 y16, σ = [some (.ref h), some (.str "bench"), some (.int (m : Int)), some (.int 1), some (.int spare), some (.str "bdfhjlnprtvxz"), some (.ref l1), some (.ref l2), y8, y9, y10, y11, some (.int gone), some (.ref D), some (.ref l3), y15, y16, none, none, none, none, none] ∧ HpAt H' h q ∧ Kpt h q H5 H' ∧ H' l3 = some (.lst jl) ∧ LVs H' jl js ∧ js.map placeOf = ps ∧ ∀ j ∈ js, ∃ a l, j = [a, l] ∧ 1 ≤ l ∧ l ≤ 5, ?_, fun σ H6 hM => ?_⟩
    · refine ⟨_, rfl, D, rfl, ⟨_, sq_lst (by rw [upd_ne nDl]; exact hD)⟩, for_list (K := K) (a := D) (xs := ps.map V.int) (fun i σ H' => ∃ jl js y15 y16, σ = [some (.ref h), some (.str "bench"), some (.int (m : Int)), some (.int 1), some (.int spare), some (.str "bdfhjlnprtvxz"), some (.ref l1), some (.ref l2), y8, y9, y10, y11, some (.int gone), some (.ref D), some (.ref l3), y15, y16, none, none, none, none, none] ∧ HpAt H' h q ∧ Kpt h q H5 H' ∧ H' l3 = some (.lst jl) ∧ LVs H' jl js ∧ js.map placeOf = ps.take i ∧ ∀ j ∈ js, ∃ a l, j = [a, l] ∧ 1 ≤ l ∧ l ≤ 5)
        ⟨[], [], none, none, rfl, g.a.upd g3.1 g3.2, .of_same (same_upd nl3), upd_same, .nil, rfl, by simp⟩ (fun i σ H6 _ hI => ?_) (fun i x σ H6 hx hI => ?_) (fun σ H6 hI => ?_)⟩
      · obtain ⟨jl, js, y15, y16, rfl, a, kp, _⟩ := hI
        exact sq_lst (kp _ _ hD gD.1 gD.2)
      · obtain ⟨jl, js, y15, y16, rfl, a, kp, e3, lv, pm, tw⟩ := hI
        obtain ⟨pa, hpa, rfl⟩ := at_map hx
        refine ⟨_, rfl, len6, fun p7 np7 => ?_⟩
        have k7 := same_upd (o := .lst [.int 1, .int 0, .int 2, .int 3, .int 1, .int 4]) np7
        obtain ⟨f1, f2⟩ := a.fresh np7
        refine ⟨h, q, p7, _, rfl, a.same k7, upd_same, f1, f2, by simp, by decide, fun v7 H7 m7 a7 kp7 => ?_⟩
        have kp67 := (Kpt.of_same (h := h) (q := q) k7).trans kp7
        have tk7 := (TK.of k7).trans (TK.kp kp7 (a.same k7))
        have e37 := kp67 _ _ e3 g3.1 g3.2
        obtain ⟨d, hd, rfl⟩ := int_of (ns := [1, 0, 2, 3, 1, 4]) m7
        have bd := (by decide : ∀ z ∈ ([1, 0, 2, 3, 1, 4] : List Int), 0 ≤ z ∧ z ≤ 4) d hd
        refine ⟨_, _, rfl, rfl, ?_⟩
        refine ⟨_, rfl, .inl ⟨rfl, _, sq_lst e37⟩, _, rfl, rfl, _, rfl, iteT ⟨_, rfl, _, rfl, len2, fun t nt => ?_⟩⟩
        have kt := same_upd (o := .tup [.int pa, .int (1 + d)]) nt
        have hi : i < ps.length := (List.getElem?_eq_some_iff.mp hpa).1
        have ljl := lv.len
        have ljs : js.length = i := by
          have := congrArg List.length pm
          rw [List.length_map, List.length_take] at this
          omega
        refine ⟨l3, _, _, rfl, rfl, kt _ _ e37, small1000 (by omega), ?_⟩
        have tk8 : TK H6 (upd (upd H7 t (.tup [.int pa, .int (1 + d)])) l3 (.lst (jl ++ [.ref t]))) := (tk7.trans (.of kt)).trans (TK.put (kt _ _ e37))
        refine ⟨jl ++ [.ref t], js ++ [[pa, 1 + d]], _, _, rfl, (a7.same kt).upd g3.1 g3.2, ((kp.trans kp67).trans (.of_same kt)).at_new nl3, upd_same, (lv.tk tk8).app (.cons ⟨t, rfl, ?_⟩ .nil), ?_, fun j hj => ?_⟩
        · rw [upd_ne (fun z => by rw [z, e37] at nt; cases nt)]; exact upd_same
        · rw [List.map_append, pm, take_one hpa]; rfl
        · rcases List.mem_append.mp hj with z | z
          · exact tw j z
          · rw [List.mem_singleton.mp z]
            exact ⟨_, _, rfl, by omega, by omega⟩
      · rw [List.length_map, List.take_length] at hI
        exact hI
    obtain ⟨jl, js, y15, y16, rfl, a6, kp6, e3, jv, pm, tw⟩ := hM
    have g := g.to kp6 a6 g1 g2
    have ljs : js.length = ps.length := by rw [← pm, List.length_map]
    have jo : JobsOk n 2 js := by
      refine ⟨by omega, by omega, fun j hj => ?_, fun j hj c hc => ?_, by rw [pm]; exact inc, by rw [pm]; exact wi⟩
      · obtain ⟨a, l, rfl, _⟩ := tw j hj
        rfl
      · obtain ⟨a, l, rfl, l1, _⟩ := tw j hj
        rw [List.mem_singleton.mp hc]; exact l1
    have lus := g.uv.len
    have lbs := g.lv.len
    have lul := g.lu
    have lbx := g.lb
    -- the wish
    refine ⟨_, rfl, rfl, _, rfl, iteT ⟨_, rfl, _, rfl, l3, jl, rfl, .inl ⟨sq_lst e3, fun pj npj => ⟨len2, fun pw npw => ?_⟩⟩⟩⟩
    have x1 := same_upd (o := .tup jl) npj
    have x2 := x1.trans (same_upd (o := .tup [.str "bench", .ref pj]) npw)
    have w1 : WV (upd (upd H6 pj (.tup jl)) pw (.tup [.str "bench", .ref pj])) (.ref pw) (.bench js) := ⟨pw, _, rfl, upd_same, pj, jl, rfl, same_upd npw _ _ upd_same, jv.same x2⟩
    generalize upd (upd H6 pj (.tup jl)) pw (.tup [.str "bench", .ref pj]) = H7 at *
    -- another
    refine ⟨_, rfl, rfl, _, rfl, iteT ⟨len2, fun t1 n1 => ⟨len2, fun t2 n2 => ⟨len2, fun t3 n3 => ⟨len2, fun t4 n4 => ?_⟩⟩⟩⟩⟩
    have y1 := same_upd (o := .tup [.int 0, .int 4]) n1
    have z1 : upd H7 t1 (.tup [.int 0, .int 4]) t1 = some (tI [0, 4]) := upd_same
    generalize upd H7 t1 (.tup [.int 0, .int 4]) = H8 at *
    have y2 := same_upd (o := .tup [.int 1, .int 2]) n2
    have z2 : upd H8 t2 (.tup [.int 1, .int 2]) t2 = some (tI [1, 2]) := upd_same
    generalize upd H8 t2 (.tup [.int 1, .int 2]) = H9 at *
    have y3 := same_upd (o := .tup [.ref t1, .ref t2]) n3
    have z3 : upd H9 t3 (.tup [.ref t1, .ref t2]) t3 = some (.tup [.ref t1, .ref t2]) := upd_same
    generalize upd H9 t3 (.tup [.ref t1, .ref t2]) = H10 at *
    have y4 := same_upd (o := .tup [.str "bench", .ref t3]) n4
    have z4 : upd H10 t4 (.tup [.str "bench", .ref t3]) t4 = some (.tup [.str "bench", .ref t3]) := upd_same
    generalize upd H10 t4 (.tup [.str "bench", .ref t3]) = H11 at *
    have w2 : WV H11 (.ref t4) (.bench [[0, 4], [1, 2]]) := ⟨t4, _, rfl, z4, t3, _, rfl, y4 _ _ z3, .cons ⟨t1, rfl, y4 _ _ (y3 _ _ (y2 _ _ z1))⟩ (.cons ⟨t2, rfl, y4 _ _ (y3 _ _ z2)⟩ .nil)⟩
    have s11 := ((y1.trans y2).trans y3).trans y4
    have w1 := w1.same s11
    have x11 := x2.trans s11
    have g := g.to (.of_same x11) (g.a.same x11) g1 g2
    refine ⟨_, rfl, h, q, 2, rfl, g.a, by decide, by decide, fun kk H12 k0 k1' a12 kp12 => ?_⟩
    have tk12 := TK.kp kp12 g.a
    have w1 := w1.tk tk12
    have w2 := w2.tk tk12
    have g := g.to kp12 a12 g1 g2
    refine ⟨_, rfl, len2, fun u1 nu1 => ⟨len2, fun u2 nu2 => ⟨_, rfl, len2, fun p8 np8 => ?_⟩⟩⟩
    have y1 := same_upd (o := .tup [.int 0, .int 1]) nu1
    have z1 : upd H12 u1 (.tup [.int 0, .int 1]) u1 = some (tI [0, 1]) := upd_same
    generalize upd H12 u1 (.tup [.int 0, .int 1]) = H13 at *
    have y2 := same_upd (o := .tup [.str "unlike", .ref u1]) nu2
    have z2 : upd H13 u2 (.tup [.str "unlike", .ref u1]) u2 = some (.tup [.str "unlike", .ref u1]) := upd_same
    generalize upd H13 u2 (.tup [.str "unlike", .ref u1]) = H14 at *
    have w3 : WV H14 (.ref u2) (.unlike [0, 1]) := ⟨u2, _, rfl, z2, u1, rfl, y2 _ _ z1⟩
    have y3 := same_upd (o := .lst [.ref u2, .ref t4]) np8
    have z3 : upd H14 p8 (.lst [.ref u2, .ref t4]) p8 = some (.lst [.ref u2, .ref t4]) := upd_same
    have f8 := (g.a.same (y1.trans y2)).fresh np8
    generalize upd H14 p8 (.lst [.ref u2, .ref t4]) = H15 at *
    have s15 := (y1.trans y2).trans y3
    have w1 := w1.same s15
    have w2 := w2.same s15
    have w3 := w3.same y3
    have g := g.to (.of_same s15) (g.a.same s15) g1 g2
    refine ⟨h, q, p8, _, rfl, g.a, z3, f8.1, f8.2, by simp, (by show 2 ≤ 1000; decide), fun v8 H16 m8 a16 kp16 => ⟨_, _, rfl, ?_⟩⟩
    have tk16 := TK.kp kp16 g.a
    obtain ⟨oth, w4, oo⟩ : ∃ oth, WV H16 v8 oth ∧ WishOk n oth := by
      rcases List.mem_cons.mp m8 with rfl | m8
      · refine ⟨_, w3.tk tk16, fun c hc => ?_, ?_, by decide, by decide⟩
        · rcases List.mem_cons.mp hc with rfl | hc
          · omega
          · rw [List.mem_singleton.mp hc]; omega
        · exact inc01
      · rw [List.mem_singleton.mp m8]
        refine ⟨_, w2.tk tk16, by decide, by decide, by decide, by decide, ?_, ?_⟩
        · exact inc01
        · intro c hc
          rcases List.mem_cons.mp hc with rfl | hc
          · show (0 : Int) ≤ 0 ∧ (0 : Int) < n
            omega
          · rw [List.mem_singleton.mp hc]
            show (0 : Int) ≤ 1 ∧ (1 : Int) < n
            omega
    have w1 := w1.tk tk16
    have g := g.to kp16 a16 g1 g2
    obtain ⟨kn, rfl⟩ : ∃ kn : Nat, kk = (kn : Int) := ⟨kk.toNat, by omega⟩
    have kn2 : kn < 2 := by omega
    refine ⟨_, rfl, _, rfl, len2, fun w5 nw5 => ⟨_, rfl, _, rfl, len2, fun w6 nw6 => ⟨len2, fun p9 np9 => ?_⟩⟩⟩
    have y1 := same_upd (o := .tup [.ref pw, v8]) nw5
    have z1 : upd H16 w5 (.tup [.ref pw, v8]) w5 = some (.tup [.ref pw, v8]) := upd_same
    generalize upd H16 w5 (.tup [.ref pw, v8]) = H17 at *
    have y2 := same_upd (o := .tup [v8, .ref pw]) nw6
    have z2 : upd H17 w6 (.tup [v8, .ref pw]) w6 = some (.tup [v8, .ref pw]) := upd_same
    generalize upd H17 w6 (.tup [v8, .ref pw]) = H18 at *
    have y3 := same_upd (o := .lst [.ref w5, .ref w6]) np9
    have z3 : upd H18 p9 (.lst [.ref w5, .ref w6]) p9 = some (.lst [.ref w5, .ref w6]) := upd_same
    generalize upd H18 p9 (.lst [.ref w5, .ref w6]) = H19 at *
    have s19 := (y1.trans y2).trans y3
    have w1 := w1.same s19
    have w4 := w4.same s19
    have g := g.to (.of_same s19) (g.a.same s19) g1 g2
    obtain ⟨wv, ws, wl, hat, hwv, wvs, wk, wo⟩ : ∃ (wv : Addr) (ws : List V) (wl : List Wish), ([.ref w5, .ref w6] : List V)[kn]? = some (.ref wv) ∧ H19 wv = some (.tup ws) ∧ WVs H19 ws wl ∧ wl[kn]? = some (.bench js) ∧ ∀ z ∈ wl, WishOk n z := by
      have both : ∀ z, z = .bench js ∨ z = oth → WishOk n z := fun z hz => by
        rcases hz with rfl | rfl
        · exact jo
        · exact oo
      have : kn = 0 ∨ kn = 1 := by omega
      rcases this with rfl | rfl
      · exact ⟨w5, _, [.bench js, oth], rfl, y3 _ _ (y2 _ _ z1), .cons w1 (.cons w4 .nil), rfl, fun z hz => both z (by simpa using hz)⟩
      · exact ⟨w6, _, [oth, .bench js], rfl, y3 _ _ z2, .cons w4 (.cons w1 .nil), rfl, fun z hz => both z (by rw [or_comm]; simpa using hz)⟩
    refine ⟨_, rfl, p9, _, (kn : Int), _, rfl, rfl, sq_lst z3, atI_nat hat, ?_⟩
    -- the task
    refine ⟨_, rfl, l1, us, rfl, .inl ⟨sq_lst g.e1, fun pu npu => ?_⟩⟩
    have y4 := same_upd (o := .tup us) npu
    have z4 : upd H19 pu (.tup us) pu = some (.tup us) := upd_same
    generalize upd H19 pu (.tup us) = H20 at *
    refine ⟨_, rfl, len1, fun z0 nz0 => ⟨_, rfl, l1, _, rfl, .inl (sq_lst (same_upd nz0 _ _ (y4 _ _ g.e1))), ?_⟩⟩
    refine ⟨z0, _, _, rfl, rfl, sq_tup upd_same, by simp, by omega, by omega, by decide, fun pg npg => fun x dx nx ndx nxd => ?_⟩
    rw [show ((us.length : Nat) : Int).toNat = us.length from Int.toNat_natCast _, rep0] at *
    have y5 := same_upd (o := .tup [.int 0]) nz0
    generalize upd H20 z0 (.tup [.int 0]) = H21 at *
    have y6 := same_upd (o := .tup ((List.replicate us.length (0 : Int)).map V.int)) npg
    have z6 : upd H21 pg (.tup ((List.replicate us.length (0 : Int)).map V.int)) pg = some (tI (List.replicate us.length 0)) := upd_same
    generalize upd H21 pg (.tup ((List.replicate us.length (0 : Int)).map V.int)) = H22 at *
    have y7 := same_upd (o := .own x) ndx
    have nx7 : upd H22 dx (.own x) x = none := by rw [upd_ne nxd.symm]; exact nx
    have y8' := y7.trans (same_upd (o := .ins C dx []) nx7)
    have z8 : upd (upd H22 dx (.own x)) x (.ins C dx []) x = some (.ins C dx []) := upd_same
    generalize upd (upd H22 dx (.own x)) x (.ins C dx []) = H24 at *
    have s19_22 := (y4.trans y5).trans y6
    have s24 := s19_22.trans y8'
    have z4' := y5 _ _ z4
    have uo : UnkOk ul := g.u.ok (by omega) (by omega)
    have lrep : (List.replicate us.length (0 : Int)).length = ul.length := by rw [List.length_replicate, lus]
    have hpu22 := y6 _ _ z4'
    refine ⟨x, dx, pu, wv, pg, us, ws, ul, wl, List.replicate us.length 0, rfl, z8, y8' _ _ hpu22, g.uv.tk (.of s24), s24 _ _ hwv, wvs.same s24, y8' _ _ z6, uo, by rw [lul]; exact wo, lrep, fun H25 s25 => ⟨rfl, ?_⟩⟩
    have s22 : Same H22 (upd H25 x (.ins C dx [("unknowns", .ref pu), ("wishes", .ref wv), ("goal", .ref pg)])) := same_at (y8'.trans s25) nx
    have ex : upd H25 x (.ins C dx [("unknowns", .ref pu), ("wishes", .ref wv), ("goal", .ref pg)]) x = some (.ins C dx [("unknowns", .ref pu), ("wishes", .ref wv), ("goal", .ref pg)]) := upd_same
    generalize upd H25 x (.ins C dx [("unknowns", .ref pu), ("wishes", .ref wv), ("goal", .ref pg)]) = H26 at *
    have s26 := s19_22.trans s22
    refine ⟨_, rfl, _, rfl, l2, bs, rfl, .inl ⟨sq_lst (s26 _ _ g.e2), fun pb npb => ⟨len3, fun pr npr => ?_⟩⟩⟩
    have y9 := same_upd (o := .tup bs) npb
    have z9 : upd H26 pb (.tup bs) pb = some (.tup bs) := upd_same
    generalize upd H26 pb (.tup bs) = H27 at *
    have yA := same_upd (o := .tup [.ref x, .int (kn : Int), .ref pb]) npr
    have s28 := (s26.trans y9).trans yA
    have t28 := s22.trans (y9.trans yA)
    refine fin pr (.ref x) (.ref pb) kn ul wl (List.replicate us.length 0) js box _ upd_same ?_ (g.a.same s28) (g.kp.trans (.of_same s28))
    refine ⟨⟨x, dx, pu, wv, pg, us, ws, rfl, yA _ _ (y9 _ _ ex), t28 _ _ hpu22, g.uv.tk (.of s28), s28 _ _ hwv, wvs.same s28, t28 _ _ z6⟩, wk, by rw [lul]; exact jo, by omega, ⟨pb, bs, rfl, yA _ _ z9, g.lv.tk (.of s28)⟩, ⟨by omega, fun r hr => (g.two r hr).1⟩, uo, by rw [lul]; exact wo, lrep, by omega, fun r hr => (g.two r hr).2, fun j hj => ?_⟩
    obtain ⟨a, l, rfl, _, l5⟩ := tw j hj
    show l ≤ 10
    omega
end
end M63

namespace M63
open PySem PySem.Spec PyProof.Rows L2 SX Own Gd
open C8 (Cal pe_c pe_gc pe_mk Mak pss_cut)
/-- the best end of some sequences -/
def BI (ws : List Win) (t0 : Int) (ss : List (List Nat)) (b : Option Int) : Prop := match b with
  | none => ∀ s ∈ ss, endT ws s t0 = none
  | some e => (∃ s ∈ ss, endT ws s t0 = some e) ∧ ∀ s ∈ ss, ∀ e', endT ws s t0 = some e' → e ≤ e'
def bV : Option Int → V
  | none => .non
  | some e => .int e
theorem mem_snoc {α : Type} {xs : List α} {y z : α} (h : z ∈ xs ++ [y]) : z ∈ xs ∨ z = y := by
  rcases List.mem_append.mp h with h | h
  · exact .inl h
  · exact .inr (List.mem_singleton.mp h)
theorem BI.skip {ws : List Win} {t0 : Int} {ss : List (List Nat)} {b : Option Int} {s : List Nat} (h : BI ws t0 ss b) (e : endT ws s t0 = none) : BI ws t0 (ss ++ [s]) b := by
  cases b with
  | none =>
    intro z hz
    rcases mem_snoc hz with hz | rfl
    · exact h z hz
    · exact e
  | some e0 =>
    obtain ⟨⟨z, hz, ez⟩, h2⟩ := h
    refine ⟨⟨z, List.mem_append_left _ hz, ez⟩, fun y hy e' he => ?_⟩
    rcases mem_snoc hy with hy | rfl
    · exact h2 y hy e' he
    · rw [e] at he; cases he
theorem BI.less {ws : List Win} {t0 e : Int} {ss : List (List Nat)} {b : Option Int} {s : List Nat} (h : BI ws t0 ss b) (he : endT ws s t0 = some e) (l : ∀ e0, b = some e0 → e < e0) : BI ws t0 (ss ++ [s]) (some e) := by
  refine ⟨⟨s, List.mem_append_right _ (List.mem_cons_self ..), he⟩, fun y hy e' hy' => ?_⟩
  rcases mem_snoc hy with hy | rfl
  · cases b with
    | none => rw [h y hy] at hy'; cases hy'
    | some e0 =>
      have := l e0 rfl
      have := h.2 y hy e' hy'
      omega
  · rw [he] at hy'
    cases hy'
    exact Int.le_refl _
theorem BI.keep {ws : List Win} {t0 e e0 : Int} {ss : List (List Nat)} {s : List Nat} (h : BI ws t0 ss (some e0)) (he : endT ws s t0 = some e) (l : ¬ e < e0) : BI ws t0 (ss ++ [s]) (some e0) := by
  obtain ⟨⟨z, hz, ez⟩, h2⟩ := h
  refine ⟨⟨z, List.mem_append_left _ hz, ez⟩, fun y hy e' hy' => ?_⟩
  rcases mem_snoc hy with hy | rfl
  · exact h2 y hy e' hy'
  · rw [he] at hy'
    cases hy'
    omega
theorem ord_full {n : Nat} {s : List Nat} (p : Perm n s) : Ord (2 ^ n - 1) s := ⟨p.nd, fun j => by rw [p.mem, Nat.testBit_two_pow_sub_one]; simp⟩
theorem full_lt (n : Nat) : 2 ^ n - 1 < 2 ^ n := by
  have := Nat.pow_pos (n := n) (show 0 < 2 by decide)
  omega
theorem bi_le {ws : List Win} {n : Nat} {t0 e : Int} {s : List Nat} (p : Perm n s) (he : endT ws s t0 = some e) : ∃ y, Tf ws n t0 (2 ^ n - 1) = some y ∧ y.1 ≤ e :=
  (Tf_tab ws n t0 (2 ^ n)).le _ s _ e rfl (full_lt n) (ord_full p) he
theorem bi_none {ws : List Win} {n : Nat} {t0 : Int} {b : Option Int} (h : BI ws t0 (seqs n) b) (e : Tf ws n t0 (2 ^ n - 1) = none) : b = none := by
  cases b with
  | none => rfl
  | some e0 =>
    obtain ⟨⟨s, hs, he⟩, _⟩ := h
    obtain ⟨y, hy, _⟩ := bi_le (seqs_perm hs) he
    rw [e] at hy; cases hy
theorem bi_some {ws : List Win} {n : Nat} {t0 : Int} {b : Option Int} {x : Int × Nat} {s : List Nat} (h : BI ws t0 (seqs n) b) (e : Tf ws n t0 (2 ^ n - 1) = some x) (p : Perm n s) (he : endT ws s t0 = some x.1) : b = some x.1 := by
  cases b with
  | none => rw [h s (perm_seqs p)] at he; cases he
  | some e0 =>
    obtain ⟨⟨z, hz, ez⟩, h2⟩ := h
    have a := h2 s (perm_seqs p) _ he
    obtain ⟨y, hy, ly⟩ := bi_le (seqs_perm hz) ez
    rw [e] at hy
    cases hy
    congr 1
    omega
theorem last_is {ws : List Win} (lo : LenOk ws) {s : List Nat} {f : List Int} {t m : Int} {f' : List Int} {t' : Int} (p : Perm ws.length s) (n1 : 1 ≤ ws.length) (fl : f.length = ws.length) (h : goT ws s f t = some (f', t')) (h1 : m ∈ lastOf ws f') (h2 : ∀ y ∈ lastOf ws f', y ≤ m) : m = t' := by
  obtain ⟨a, b⟩ := last_max lo p n1 fl h
  have := h2 _ a
  have := b _ h1
  omega
theorem end_of {ws : List Win} {s : List Nat} {f f' : List Int} {t t' : Int} (h : goT ws s f t = some (f', t')) : endT ws s t = some t' := by
  rw [← goT_end ws s f t, h]; rfl
theorem end_no {ws : List Win} {s : List Nat} {f : List Int} {t : Int} (h : goT ws s f t = none) : endT ws s t = none := by
  rw [← goT_end ws s f t, h]; rfl
section
variable {P : Program} {w : World} {K : PySem.W.Frag} {mg : Str → Option Value} {base : Heap} {aW aT : Addr} {es : Array DictEntry} {nn : Nat}
abbrev s_Lend_right : Stmt := topS 49
abbrev n_Lend_right : List Str := ["task", "k", "box", "windows", "best", "sequence", "starts", "told"]
theorem sc_Lend_right : FnScope n_Lend_right ["task", "k", "box"] (defScope s_Lend_right) := ⟨rfl, rfl, rfl, by decide +kernel, rfl, by decide +kernel, by decide +kernel⟩
def spLEnd (C : Addr) : Sp := fun vs H Q _ => ∃ (v b : V) (k : Nat) (ul : List Unk) (wl : List Wish) (goal : List Int) (js box : List (List Int)), vs = [v, .int k, b] ∧ Made C H v b k ul wl goal js box ∧ ∀ H', Same H H' → Q (.bl true) H'
theorem ok_Lend_right {f C CR : Addr} {fd : FuncData} (F : Fun K "_law_end_right" "_law_end_right" s_Lend_right f fd) (T : Txt K mg w aW aT es nn) (cc : CC K C) (c_Lwindows : Cal P w K mg base 1 "_law_windows" spLWin []) (c_Lsequences : Cal P w K mg base 1 "_law_sequences" spSeqs []) (c_Lstarts : Cal P w K mg base 1 "_law_starts" spLSt []) (c_Llast : Cal P w K mg base 1 "_law_last" spLast []) (c_Lare_kept : Cal P w K mg base 1 "_law_are_kept" spKept []) (k_least_bench_end_task_k_box : CalK P w K mg base 5 "least_bench_end" ["task", "k", "box"] id (spLeast C CR)) : FnOk P w K mg base CX0 6 f fd ["task", "k", "box"] (spLEnd C) := by
  refine F.ok sc_Lend_right (fun vs H Q E h => ?_) (fun cdv A outer s0 H vs Q E hr h => ?_)
  · obtain ⟨v, b, k, ul, wl, goal, js, box, rfl, _⟩ := h
    rfl
  · obtain ⟨v, b, k, ul, wl, goal, js, box, rfl, md, fin⟩ := h
    refine ⟨_, (pss_cons (ps_par (i := 3) (j := 4) (by rfl) sc_Lend_right.nd rfl rfl (by decide) rfl rfl (pa_cons (pe_ix ix_tup (pe_c c_Lwindows hr (by decide) (by rfl) (pa_cons (pe_ix ix_tup (pe_fld (pv 0) (by rfl)) (pv 1) (fun _ _ => rfl)) (pa_cons (pv 2) pa_nil))) pe_int (fun _ _ => rfl)) (pa_cons pe_non pa_nil)) (by rfl))
      (pss_cut (ps_for PassesOwn.never rfl (pi_list (pe_c c_Lsequences hr (by decide) (by rfl) (pa_cons (pe_callB call_len_seq (by rfl) T.b_len (by decide +kernel) (pa_cons (pv 3) pa_nil)) pa_nil))) (pg_name (i := 5) sc_Lend_right.nd rfl (.inl rfl)) (pss_cons (ps_set (i := 6) sc_Lend_right.nd rfl (.inl rfl) (pe_c c_Lstarts hr (by decide) (by rfl) (pa_cons (pv 3) (pa_cons (pv 5) pa_nil))))
        (pss_one (ps_if (PW.pt (pw_and (pt_cmpR op_notN (pv 6) pe_non (nomark _)) (pw_and1 (PW.pt (pw_or (pt_cmpR op_isN (pv 4) pe_non (nomark _)) (pw_or1 (pt_cmpR op_lt (pe_c c_Llast hr (by decide) (by rfl) (pa_cons (pv 3) (pa_cons (pv 6) pa_nil))) (pv 4) (nomark _)))))))) (pss_one (ps_set (i := 4) sc_Lend_right.nd rfl (.inl rfl) (pe_c c_Llast hr (by decide) (by rfl) (pa_cons (pv 3) (pa_cons (pv 6) pa_nil))))) pss_nil))))
      (pss_cut (ps_set (i := 7) sc_Lend_right.nd rfl (.inl rfl) (pe_kw k_least_bench_end_task_k_box hr (by decide) (by rfl) (pk_cons (pv 0) (pk_cons (pv 1) (pk_cons (pv 2) pk_nil)))))
      (pss_cons (ps_if (PW.pt (pw_or (pt_cmpR op_isN (pv 4) pe_non (nomark _)) (pw_or1 (pt_cmpR op_isN (pv 7) pe_non (nomark _))))) (pss_one (ps_ret (pe_and (pe_cmpR op_isN (pv 4) pe_non (nomark _)) (pe_one (pe_cmpR op_isN (pv 7) pe_non (nomark _)))))) pss_nil)
      (pss_cons (ps_if (PW.pt (pw_or (pt_not (pt_val (pe_callB call_isE (by rfl) T.b_isinstance (by decide +kernel) (pa_cons (pv 7) (pa_cons (pe_bltn (v := .ty "tuple") (by rfl) T.b_tuple boot_tuple rfl) pa_nil))))) (pw_or (pt_cmpR op_ne (pe_callB call_len_seq (by rfl) T.b_len (by decide +kernel) (pa_cons (pv 7) pa_nil)) pe_int (nomark _)) (pw_or (pt_cmpR op_ne (pe_callB SkE.call_repr_int (by rfl) T.b_repr (by decide +kernel) (pa_cons (pe_ix ix_tup (pv 7) pe_int (fun _ _ => rfl)) pa_nil)) (pe_callB SkE.call_repr_int (by rfl) T.b_repr (by decide +kernel) (pa_cons (pv 4) pa_nil)) (nomark _)) (pw_or1 (pt_not (pt_val (pe_callB call_isE (by rfl) T.b_isinstance (by decide +kernel) (pa_cons (pe_ix ix_tup (pv 7) pe_int (fun _ _ => rfl)) (pa_cons (pe_bltn (v := .ty "tuple") (by rfl) T.b_tuple boot_tuple rfl) pa_nil)))))))))) (pss_one (ps_ret pe_bl)) pss_nil)
      (pss_one (ps_ret (pe_and (pe_cmpR op_eq (pe_callB call_len_seq (by rfl) T.b_len (by decide +kernel) (pa_cons (pe_ix ix_tup (pv 7) pe_int (fun _ _ => rfl)) pa_nil)) (pe_callB call_len_seq (by rfl) T.b_len (by decide +kernel) (pa_cons (pv 3) pa_nil)) (nomark _)) (pe_and (pe_c c_Lare_kept hr (by decide) (by rfl) (pa_cons (pv 3) (pa_cons (pe_ix ix_tup (pv 7) pe_int (fun _ _ => rfl)) pa_nil))) (pe_one (pe_cmpR op_eq (pe_c c_Llast hr (by decide) (by rfl) (pa_cons (pv 3) (pa_cons (pe_ix ix_tup (pv 7) pe_int (fun _ _ => rfl)) pa_nil))) (pv 4) (nomark _)))))))))))), ?_⟩
    obtain ⟨tv, hk, jo, l5, bv, bo, _, _, _, _, bx, jl⟩ := id md
    obtain ⟨x, dx, pu, pw, pg, us0, ws', rfl, hx, hpu, uv, hpw, wv, hpg⟩ := id tv
    have lk : k < ws'.length := by rw [wv.len]; exact (List.getElem?_eq_some_iff.mp hk).1
    have hwk : ws'[k]? = some ws'[k] := List.getElem?_eq_getElem lk
    obtain ⟨wk, hwk', wvk⟩ := wv.at_ hwk
    rw [hk] at hwk'
    cases hwk'
    have two := jo.two
    have lo : LenOk (js.map (winOf box)) := win_lens jo
    have sml : ∀ w ∈ js.map (winOf box), _ := fun w hw => win_small bx jl hw
    have lw : (js.map (winOf box)).length = js.length := List.length_map ..
    have wne : js.map (winOf box) ≠ [] := fun z => by rw [z] at lw; simp at lw; omega
    refine ⟨_, rfl, x, C, dx, _, _, rfl, hx, cc.cl, cc.nw, lk_w _ _ _, _, rfl, pw, _, _, _, rfl, rfl, sq_tup hpw, atI_nat hwk, _, rfl, ?_⟩
    refine ⟨_, b, js, box, ul.length, rfl, wvk, jo, bv, bo, fun p l us H1 s1 hp hl nl lv => ?_⟩
    refine ⟨p, _, 0, _, rfl, rfl, sq_tup hp, rfl, _, _, rfl, ?_⟩
    have lus : us.length = js.length := by rw [lv.len, List.length_map, lw]
    obtain ⟨lm, lle⟩ := lowest_ok wne
    generalize hws : js.map (winOf box) = ws at *
    have bse : ∃ t0, t0 = lowest ws := ⟨_, rfl⟩
    obtain ⟨t0, ht0⟩ := bse
    rw [← ht0] at lle lm
    refine ⟨fun σ H' => ∃ (bo : Option Int) (y5 y6 : Option V), σ = [some (.ref x), some (.int (k : Int)), some b, some (.ref l), some (bV bo), y5, y6, none] ∧ Same H1 H' ∧ BI ws t0 (seqs js.length) bo, ?_, fun σ H2 hM => ?_⟩
    · refine ⟨_, rfl, l, _, rfl, .inl (sq_lst hl), js.length, (by rw [lus]; rfl), l5, fun l2 us2 H2 s2 nl2 hl2 sv => ?_⟩
      refine ⟨l2, rfl, ⟨_, sq_lst hl2⟩, for_list (K := K) (a := l2) (xs := us2) (fun i σ H' => ∃ (bo : Option Int) (y5 y6 : Option V), σ = [some (.ref x), some (.int (k : Int)), some b, some (.ref l), some (bV bo), y5, y6, none] ∧ Same H2 H' ∧ BI ws t0 ((seqs js.length).take i) bo)
        ⟨none, none, none, rfl, Same.refl _, fun s hs => by simp at hs⟩ (fun i σ H3 _ h => ?_) (fun i y σ H3 hy h => ?_) (fun σ H3 h => ?_)⟩
      · obtain ⟨_, _, _, _, s3, _⟩ := h
        exact sq_lst (s3 _ _ hl2)
      · obtain ⟨bo', y5, y6, rfl, s3, bi⟩ := h
        obtain ⟨s, ps, hs, rfl, hps⟩ := sv.at_ hy
        have pm := seqs_perm (List.mem_of_getElem? hs)
        have s13 := s2.trans s3
        rw [take_one hs]
        have pm' : Perm ws.length s := by rw [lw]; exact pm
        refine ⟨_, rfl, _, rfl, l, ps, us, ws, s, t0, rfl, s13 _ _ hl, lv.same s13, by omega, s3 _ _ hps, fun j hj => (pm'.mem j).mp hj, lle, fun e H4 s4 => ?_, fun f t' u H4 e s4 lf => ?_⟩
        · refine ⟨_, rfl, rfl, _, rfl, iteF (iteF ⟨bo', _, _, rfl, s3.trans s4, bi.skip (end_no e)⟩)⟩
        · have fl : (List.replicate ws.length (0 : Int)).length = ws.length := List.length_replicate ..
          have ge := end_of e
          have s14 := s13.trans s4
          have lf' : f.length = ws.length := (goT_ok lo pm'.nd (fun j hj => (pm'.mem j).mp hj) fl e).len.trans fl
          have asg : ∀ {H5 : Hp}, Same H4 H5 → (∀ e0, bo' = some e0 → t' < e0) → tAsg (tCall spLast [] C8.E0 (tCons (tVar 3) (tCons (tVar 6) tNil))) (gName 4) { nx := fun σ H' => ∃ (bo : Option Int) (y5 y6 : Option V), σ = [some (.ref x), some (.int (k : Int)), some b, some (.ref l), some (bV bo), y5, y6, none] ∧ Same H2 H' ∧ BI ws t0 ((seqs js.length).take i ++ [s]) bo, rt := fun _ _ => False } [some (.ref x), some (.int (k : Int)), some b, some (.ref l), some (bV bo'), some (.ref ps), some u, none] H5 := fun {H5} s5 lt => by
            have s15 := s14.trans s5
            refine ⟨_, rfl, _, rfl, l, u, us, ws, f, rfl, s15 _ _ hl, lv.same s15, by omega, by omega, lf.same s5, lf', fun m H6 s6 h1 h2 => ?_⟩
            rw [last_is lo pm' (by omega) fl e h1 h2]
            exact ⟨some t', _, _, rfl, ((s3.trans s4).trans s5).trans s6, bi.less ge lt⟩
          obtain ⟨pu2, rfl, hpu2⟩ := id lf
          refine ⟨_, rfl, rfl, _, rfl, iteT ?_⟩
          cases bo' with
          | none =>
            refine ⟨_, rfl, rfl, _, rfl, iteT (iteT ?_)⟩
            exact asg (Same.refl _) (fun e0 z => by cases z)
          | some e0 =>
            refine ⟨_, rfl, rfl, _, rfl, iteF ?_⟩
            refine ⟨_, rfl, _, rfl, l, _, us, ws, f, rfl, s14 _ _ hl, lv.same s14, by omega, by omega, lf, lf', fun m H5 s5 h1 h2 => ?_⟩
            rw [last_is lo pm' (by omega) fl e h1 h2]
            refine ⟨_, rfl, _, _, rfl, rfl, _, rfl, ite2 (fun h3 => ?_) (fun h3 => ?_)⟩
            · have h3 : t' < e0 := of_decide_eq_true h3
              exact asg s5 (fun e1 z => by cases z; exact h3)
            · have h3 : ¬ t' < e0 := fun z => h3 (decide_eq_true z)
              exact ⟨some e0, _, _, rfl, (s3.trans s4).trans s5, bi.keep ge h3⟩
      · obtain ⟨bo', y5, y6, rfl, s3, bi⟩ := h
        have : us2.length = (seqs js.length).length := sv.len
        rw [this, List.take_length] at bi
        exact ⟨bo', y5, y6, rfl, s2.trans s3, bi⟩
    obtain ⟨best, y5, y6, rfl, s2, bi⟩ := hM
    have s02 := s1.trans s2
    have l0 : (List.replicate ws.length (0 : Int)).length = ws.length := List.length_replicate ..
    refine ⟨fun σ H' => ∃ v7, σ = [some (.ref x), some (.int (k : Int)), some b, some (.ref l), some (bV best), y5, y6, some v7] ∧ Same H2 H' ∧ ((best = none ∧ v7 = .non) ∨ ∃ (e : Int) (s : List Nat) (f : List Int) (p : Addr) (u : V), Perm ws.length s ∧ goT ws s (List.replicate ws.length 0) t0 = some (f, e) ∧ best = some e ∧ v7 = .ref p ∧ H' p = some (.tup [.int e, u]) ∧ LV H' u f), ?_, fun σ H3 hM => ?_⟩
    · refine ⟨_, rfl, _, rfl, _, rfl, .ref x, b, k, ul, wl, goal, js, box, rfl, tv.same s02, hk, jo, bv.same s02, bo, fun z => absurd z (by omega), fun _ hn H3 s3 => ?_, fun _ e s f p u H3 he ps hg s3 hp lf => ?_⟩
      · rw [hws, ← ht0] at hn
        exact ⟨_, rfl, s3, .inl ⟨bi_none bi hn, rfl⟩⟩
      · rw [hws, ← ht0] at he hg
        rw [← lw] at hg
        exact ⟨_, rfl, s3, .inr ⟨e.1, s, f, p, u, by rw [lw]; exact ps, hg, bi_some bi he ps (end_of hg), rfl, hp, lf⟩⟩
    obtain ⟨v7, rfl, s3, cs⟩ := hM
    have s03 := s02.trans s3
    rcases cs with ⟨rfl, rfl⟩ | ⟨e, s, f, p, u, pm, hg, rfl, rfl, hp, lf⟩
    · refine ⟨_, rfl, rfl, _, rfl, iteT (iteT ?_)⟩
      exact ⟨_, rfl, rfl, _, rfl, iteT ⟨_, rfl, rfl, fin _ s03⟩⟩
    · refine ⟨_, rfl, rfl, _, rfl, iteF ?_⟩
      refine ⟨_, rfl, rfl, _, rfl, iteF ?_⟩
      have g := goT_ok lo pm.nd (fun j hj => (pm.mem j).mp hj) l0 hg
      obtain ⟨pu2, rfl, hpu2⟩ := id lf
      refine ⟨_, rfl, .ref p, .type "tuple", "tuple", true, rfl, .base (.base (.tup hp)), by rfl, true, rfl, iteF ?_⟩
      have l1 : 1 ≤ ws.length := by omega
      obtain ⟨j, hj, ej⟩ := g.last (fun z => by have := pm.len; rw [z] at this; simp at this; omega)
      have wj := g.win j hj
      have sj := sml _ (getW (ws := ws) (j := j) ((pm.mem j).mp hj))
      have lj := lo _ (getW (ws := ws) (j := j) ((pm.mem j).mp hj))
      have elog : e.natAbs.log2 < 1920 := by
        have := Nat.log2_le_self e.natAbs
        omega
      refine ⟨_, rfl, p, _, rfl, .inr (sq_tup hp), rfl, _, rfl, ite2 (fun h => absurd h (by simp)) (fun _ => ?_)⟩
      refine ⟨_, rfl, p, _, 0, _, rfl, rfl, sq_tup hp, rfl, e, rfl, elog, _, rfl, e, rfl, elog, rfl, _, rfl, ite2 (fun h => absurd h (by simp)) (fun _ => ?_)⟩
      refine ⟨_, rfl, p, _, 1, _, rfl, rfl, sq_tup hp, rfl, .ref pu2, .type "tuple", "tuple", true, rfl, .base (.base (.tup hpu2)), by rfl, true, rfl, iteF ?_⟩
      have fl : f.length = ws.length := g.len.trans l0
      have hl3 := (s2.trans s3) _ _ hl
      have lv3 := lv.same (s2.trans s3)
      refine ⟨_, rfl, p, _, 1, _, rfl, rfl, sq_tup hp, rfl, pu2, _, rfl, .inr (sq_tup hpu2), _, rfl, l, _, rfl, .inl (sq_lst hl3), rfl, _, rfl, ite2 (fun _ => ?_) (fun h => absurd (decide_eq_true ?_) h)⟩
      · refine ⟨_, rfl, _, rfl, p, _, 1, _, rfl, rfl, sq_tup hp, rfl, l, .ref pu2, us, ws, f, rfl, hl3, lv3, by omega, lf, fl, fun j hj => ?_, fun i j hi hj ne => g.apart i ((pm.mem i).mpr hi) j ((pm.mem j).mpr hj) ne, true, rfl, iteT ?_⟩
        · have := g.win j ((pm.mem j).mpr hj)
          exact ⟨this.1, this.2.1⟩
        refine ⟨_, rfl, _, rfl, p, _, 1, _, rfl, rfl, sq_tup hp, rfl, l, .ref pu2, us, ws, f, rfl, hl3, lv3, by omega, by omega, lf, fl, fun m H6 s6 h1 h2 => ⟨_, rfl, rfl, ?_⟩⟩
        rw [last_is lo pm l1 l0 hg h1 h2, show decide (V.int e = bV (some e)) = true from decide_eq_true rfl]
        exact fin _ (s03.trans s6)
      · rw [List.length_map, fl, lw, lus]
end
end M63

namespace M63
open PySem PySem.Spec PyProof.Rows L2 SX Own Gd
open C8 (Cal pe_c pe_gc pe_mk Mak pss_cut)
/-! ### integers as data, and shown -/
def dI (a : List Int) : PyData := .tuple (a.map PyData.int)
theorem dpAllI {K : PySem.W.Frag} {H : Hp} : ∀ a : List Int, DpAll K H (a.map V.int) (a.map PyData.int)
  | [] => .nil
  | c :: a => .cons (.int c) (dpAllI a)
theorem dpI {K : PySem.W.Frag} {H : Hp} {q : Addr} {a : List Int} (e : H q = some (tI a)) : Dp K H (.ref q) (dI a) := .tup (sq_tup e) (dpAllI a)
theorem layI : ∀ a : List Int, PyData.canLayAll0 (a.map PyData.int) = true
  | [] => by simp [PyData.canLayAll0]
  | c :: a => by simp [PyData.canLayAll0, PyData.canLay0, layI a]
theorem depI : ∀ a : List Int, PyData.depthAll (a.map PyData.int) ≤ 1
  | [] => by simp [PyData.depthAll]
  | c :: a => by
    have := depI a
    simp only [List.map_cons, PyData.depthAll, PyData.depth]; omega
theorem shpI (a : List Int) : SeqAt.shaped (dI a) = true := by
  have := depI a
  unfold SeqAt.shaped dI
  rw [Bool.and_eq_true]
  refine ⟨by simp only [PyData.canLay0]; exact layI a, decide_eq_true ?_⟩
  simp only [PyData.depth]; omega
def Sh12 (c : Int) : Prop := c.natAbs < 10 ^ 12
/-- data that can be shown -/
structure DS (W : Nat) (d : PyData) : Prop where
  s : d.showable = true
  n : d.hasDict = false
  p : d.depth ≤ 60
  l : d.leavesShort 13 = true
  w : d.weight ≤ W
theorem DS.fits {d : PyData} {W : Nat} (h : DS W d) (hW : W ≤ 1000000) : d.shown.length ≤ sizeLine := PyData.shown_fits (B := 13) (by decide) (by decide) h.l (Nat.le_trans h.w (Nat.le_trans hW (by decide)))
theorem log12 {c : Int} (h : Sh12 c) : c.natAbs.log2 < 40 := PySem.Flt.log2_lt_of (by decide) (Nat.lt_trans h (by decide))
theorem intW {c : Int} (h : Sh12 c) : (PyData.int c).weight ≤ 40 := by
  simp only [PyData.weight]
  have := log12 h
  split <;> omega
theorem intL {c : Int} (h : Sh12 c) : (PyData.int c).leavesShort 13 = true := by
  simp only [PyData.leavesShort]
  exact decide_eq_true (PyData.shown_int_le h)
theorem intsS : ∀ {a : List Int}, (∀ c ∈ a, Sh12 c) → PyData.showableAll (a.map .int) = true ∧ PyData.hasDictAll (a.map .int) = false ∧ PyData.depthAll (a.map .int) = 0 ∧ PyData.leavesShortAll 13 (a.map .int) = true ∧ PyData.weightAll (a.map .int) ≤ 41 * a.length
  | [], _ => by simp [PyData.showableAll, PyData.hasDictAll, PyData.depthAll, PyData.leavesShortAll, PyData.weightAll]
  | c :: a, h => by
    obtain ⟨h1, h2, h3, h4, h5⟩ := intsS (a := a) fun d hd => h d (List.mem_cons_of_mem _ hd)
    have hc := h c (List.mem_cons_self ..)
    have w := intW hc
    have g := log12 hc
    refine ⟨?_, ?_, ?_, ?_, ?_⟩
    · simp only [List.map_cons, PyData.showableAll, PyData.showable, h1, Bool.and_true]; exact decide_eq_true (by omega)
    · simp only [List.map_cons, PyData.hasDictAll, PyData.hasDict, h2, Bool.or_false]
    · simp only [List.map_cons, PyData.depthAll, PyData.depth, h3]; rfl
    · simp only [List.map_cons, PyData.leavesShortAll, intL hc, h4, Bool.and_true]
    · simp only [List.map_cons, PyData.weightAll, List.length_cons]; omega
theorem showD {K : PySem.W.Frag} {H : Hp} {Q : VK} {a : Addr} {d : PyData} {W : Nat} (e : Dp K H (.ref a) d) (h : DS W d) (hW : W ≤ 1000000) (q : Q (.str d.shown) H) : rShow K [.ref a] H Q := ⟨a, d, rfl, e, h.s, h.n, h.p, h.fits hW, q⟩
theorem intsT {a : List Int} (h : ∀ c ∈ a, Sh12 c) (l : a.length ≤ 100) : DS 41100 (dI a) := by
  obtain ⟨h1, h2, h3, h4, h5⟩ := intsS h
  unfold dI
  refine ⟨?_, ?_, ?_, ?_, ?_⟩
  · simp only [PyData.showable, h1]
  · simp only [PyData.hasDict, h2]
  · simp only [PyData.depth, h3]; omega
  · simp only [PyData.leavesShort, h4]
  · simp only [PyData.weight]; omega
/-- repr of a tuple of integers or None -/
def rShowN (K : PySem.W.Frag) : List V → Hp → VK → Prop := fun xs H Q => rShow K xs H Q ∨ (xs = [.non] ∧ Q (.str "None") H)
theorem call_showN {X : Cx} (hgd : X.A.guards = some []) (hu : X.A.units + 64 < cLine) : CallR X (.builtin "repr") (rShowN X.K) := by
  intro pins s σ H xs us Q I r h
  rcases h with h | ⟨rfl, q⟩
  · exact call_show hgd hu pins s σ H xs us Q I r h
  · obtain ⟨u, rfl, r1⟩ := vals1 r
    cases (show u = Value.none from r1)
    exact PySem.P.repr_of_none ⟨.str "None", H, I.tok _, ⟨_, rfl⟩, q⟩
theorem shownI {K : PySem.W.Frag} {H : Hp} {Q : VK} {v : V} {a : List Int} (lv : LV H v a) (h : ∀ c ∈ a, Sh12 c) (l : a.length ≤ 100) (q : Q (.str (dI a).shown) H) : rShowN K [v] H Q := by
  obtain ⟨p, rfl, e⟩ := lv
  exact .inl (showD (dpI e) (intsT h l) (by decide) q)
/-! ### lots of rows as data -/
theorem dpLs {K : PySem.W.Frag} {H : Hp} : ∀ {vs : List V} {as : List (List Int)}, LVs H vs as → DpAll K H vs (as.map dI)
  | _, _, .nil => .nil
  | _, _, .cons ⟨p, e, h⟩ t => by rw [e]; exact .cons (dpI h) (dpLs t)
theorem shpLs : ∀ (as : List (List Int)), PyData.canLayAll0 (as.map dI) = true ∧ PyData.depthAll (as.map dI) ≤ 3
  | [] => by simp [PyData.canLayAll0, PyData.depthAll]
  | r :: rs => by
    obtain ⟨h1, h2⟩ := shpLs rs
    have hd := depI r
    constructor
    · simp only [List.map_cons, PyData.canLayAll0, h1, Bool.and_true]
      unfold dI
      simp [PyData.canLay0, layI r]
    · simp only [List.map_cons, PyData.depthAll]
      have : (dI r).depth ≤ 3 := by unfold dI; simp only [PyData.depth]; omega
      omega
theorem shpLT (as : List (List Int)) : SeqAt.shaped (.tuple (as.map dI)) = true := by
  obtain ⟨h1, h2⟩ := shpLs as
  unfold SeqAt.shaped
  rw [Bool.and_eq_true]
  exact ⟨by simp only [PyData.canLay0, h1], decide_eq_true (by simp only [PyData.depth]; omega)⟩
theorem neLs {K : PySem.W.Frag} {H : Hp} {p p' : Addr} {vs us : List V} {as : List (List Int)} {Q : VK} (e1 : H p = some (.tup vs)) (l1 : LVs H vs as) (e2 : H p' = some (.tup us)) (l2 : LVs H us as) (k : Q (.bl false) H) : rNeD K (.ref p) (.ref p') H Q := by
  refine ⟨_, _, .tup (sq_tup e1) (dpLs l1), .tup (sq_tup e2) (dpLs l2), shpLT as, shpLT as, ?_⟩
  rw [SeqAt.eqv_refl _ (SeqAt.canLay_of_shaped (shpLT as))]; exact k
theorem SqVs.tk {H H' : Hp} (x : TK H H') : ∀ {vs : List V} {ss : List (List Nat)}, SqVs H vs ss → SqVs H' vs ss
  | _, _, .nil => .nil
  | _, _, .cons h t => .cons (x _ _ h) (t.tk x)
theorem starts_small {ws : List Win} (lo : LenOk ws) (sm : ∀ w ∈ ws, (-5 ≤ w.1 ∧ w.1 ≤ 15) ∧ (-5 ≤ w.2.1 ∧ w.2.1 ≤ 15) ∧ w.2.2.1 ≤ 10) {s : List Nat} (p : Perm ws.length s) {f : List Int} {t t' : Int} (h : goT ws s (List.replicate ws.length 0) t = some (f, t')) : f.length = ws.length ∧ ∀ c ∈ f, Sh12 c := by
  have l0 : (List.replicate ws.length (0 : Int)).length = ws.length := List.length_replicate ..
  have g := goT_ok lo p.nd (fun j hj => (p.mem j).mp hj) l0 h
  have fl := g.len.trans l0
  refine ⟨fl, fun c hc => ?_⟩
  obtain ⟨j, hj, e⟩ := List.getElem_of_mem hc
  have w1 := g.win j ((p.mem j).mpr (by omega))
  have s1 := sm _ (getW (ws := ws) (j := j) (by omega))
  have ec : f.getD j 0 = c := by rw [List.getD_eq_getElem?_getD, List.getElem?_eq_getElem hj, e]; rfl
  rw [ec] at w1
  unfold Sh12
  omega
theorem TaskV.kp {C h q : Addr} {H H' : Hp} {v : V} {ul : List Unk} {wl : List Wish} {goal : List Int} (t : TaskV C H v ul wl goal) (k : Kpt h q H H') (a : HpAt H h q) : TaskV C H' v ul wl goal := by
  have tk := TK.kp k a
  obtain ⟨x, dx, pu, pw, pg, us, ws, rfl, hx, hpu, uv, hpw, wv, hpg⟩ := t
  obtain ⟨cs, st, a⟩ := a
  have wv' : WVs H' ws wl := by
    clear hpw
    induction wv with
    | nil => exact .nil
    | cons h _ ih => exact .cons (h.tk tk) ih
  exact ⟨x, dx, pu, pw, pg, us, ws, rfl, k _ _ hx (fun z => by rw [z, a.hh] at hx; cases hx) (fun z => by rw [z, a.hq] at hx; cases hx), tk _ _ hpu, uv.tk tk, tk _ _ hpw, wv', tk _ _ hpg⟩
theorem Made.kp {C h q : Addr} {H H' : Hp} {tv bv : V} {k : Nat} {ul : List Unk} {wl : List Wish} {goal : List Int} {js box : List (List Int)} (m : Made C H tv bv k ul wl goal js box) (kp : Kpt h q H H') (a : HpAt H h q) : Made C H' tv bv k ul wl goal js box :=
  ⟨m.tv.kp kp a, m.wk, m.jo, m.few, m.bv.tk (TK.kp kp a), m.bo, m.uo, m.wo, m.lg, m.l6, m.bx, m.jl⟩
section
variable {P : Program} {w : World} {K : PySem.W.Frag} {mg : Str → Option Value} {base : Heap} {aW aT : Addr} {es : Array DictEntry} {nn : Nat}
abbrev s_Lsequences_right : Stmt := topS 50
abbrev n_Lsequences_right : List Str := ["heap", "task", "k", "box", "windows", "some", "turn", "sequence"]
theorem sc_Lsequences_right : FnScope n_Lsequences_right ["heap", "task", "k", "box"] (defScope s_Lsequences_right) := ⟨rfl, rfl, rfl, by decide +kernel, rfl, by decide +kernel, by decide +kernel⟩
def spLSr (C : Addr) : Sp := fun vs H Q _ => ∃ (h q : Addr) (v b : V) (k : Nat) (ul : List Unk) (wl : List Wish) (goal : List Int) (js box : List (List Int)), vs = [.ref h, v, .int k, b] ∧ HpAt H h q ∧ Made C H v b k ul wl goal js box ∧ ∀ H', HpAt H' h q → Kpt h q H H' → Q (.bl true) H'
theorem ok_Lsequences_right {f C : Addr} {fd : FuncData} (F : Fun K "_law_sequences_right" "_law_sequences_right" s_Lsequences_right f fd) (T : Txt K mg w aW aT es nn) (cc : CC K C) (c_Lwindows : Cal P w K mg base 1 "_law_windows" spLWin []) (c_Lsequences : Cal P w K mg base 1 "_law_sequences" spSeqs []) (c_Lstarts : Cal P w K mg base 1 "_law_starts" spLSt []) (c_Lpick : Cal P w K mg base 2 "_law_pick" spPickL [])
    (k_job_windows_box_k_task : CalK P w K mg base 2 "job_windows" ["box", "k", "task"] List.reverse (spWin C)) (k_starts_in_sequence_task_k_box_sequence : CalK P w K mg base 3 "starts_in_sequence" ["task", "k", "box", "sequence"] id (spStarts C)) : FnG P w K mg base CX0 4 f fd ["heap", "task", "k", "box"] (spLSr C) := by
  refine fun_okG F sc_Lsequences_right (fun vs H Q E h => ?_) (fun cdv A outer s0 H vs Q E hgd hr h => ?_)
  · obtain ⟨h, q, v, b, k, ul, wl, goal, js, box, rfl, _⟩ := h
    rfl
  · obtain ⟨h, q, v, b, k, ul, wl, goal, js, box, rfl, a0, md, fin⟩ := h
    refine ⟨_, (pss_cons (ps_set (i := 4) sc_Lsequences_right.nd rfl (.inl rfl) (pe_ix ix_tup (pe_c c_Lwindows hr (by decide) (by rfl) (pa_cons (pe_ix ix_tup (pe_fld (pv 1) (by rfl)) (pv 2) (fun _ _ => rfl)) (pa_cons (pv 3) pa_nil))) pe_int (fun _ _ => rfl)))
      (pss_cons (ps_if (pt_cmpR (op_neD hr.units) (pe_kw k_job_windows_box_k_task hr (by decide) (by rfl) (pk_cons (pv 3) (pk_cons (pv 2) (pk_cons (pv 1) pk_nil)))) (pe_callTy call_tuple_of (by rfl) T.b_tuple (by decide +kernel) (pa_cons (pv 4) pa_nil)) (nomark _)) (pss_one (ps_ret pe_bl)) pss_nil)
      (pss_cons (ps_set (i := 5) sc_Lsequences_right.nd rfl (.inl rfl) (pe_c c_Lsequences hr (by decide) (by rfl) (pa_cons (pe_callB call_len_seq (by rfl) T.b_len (by decide +kernel) (pa_cons (pv 4) pa_nil)) pa_nil)))
      (pss_cons (ps_for PassesOwn.never rfl (pi_range1 (by rfl) T.b_range (pa_cons pe_int pa_nil)) (pg_name (i := 6) sc_Lsequences_right.nd rfl (.inl rfl)) (pss_cons (ps_set (i := 7) sc_Lsequences_right.nd rfl (.inl rfl) (pe_c c_Lpick hr (by decide) (by rfl) (pa_cons (pv 0) (pa_cons (pv 5) pa_nil))))
        (pss_one (ps_if (pt_cmpR op_ne (pe_callB (call_showN hgd hr.units) (by rfl) T.b_repr (by decide +kernel) (pa_cons (pe_kw k_starts_in_sequence_task_k_box_sequence hr (by decide) (by rfl) (pk_cons (pv 1) (pk_cons (pv 2) (pk_cons (pv 3) (pk_cons (pv 7) pk_nil))))) pa_nil)) (pe_callB (call_showN hgd hr.units) (by rfl) T.b_repr (by decide +kernel) (pa_cons (pe_c c_Lstarts hr (by decide) (by rfl) (pa_cons (pv 4) (pa_cons (pv 7) pa_nil))) pa_nil)) (nomark _)) (pss_one (ps_ret pe_bl)) pss_nil))))
      (pss_one (ps_ret pe_bl)))))), ?_⟩
    obtain ⟨tv, hk, jo, l5, bv, bo, _, _, _, _, bx, jl⟩ := id md
    obtain ⟨x, dx, pu, pw, pg, us0, ws', rfl, hx, hpu, uv, hpw, wv, hpg⟩ := id tv
    have lk : k < ws'.length := by rw [wv.len]; exact (List.getElem?_eq_some_iff.mp hk).1
    have hwk : ws'[k]? = some ws'[k] := List.getElem?_eq_getElem lk
    obtain ⟨wk, hwk', wvk⟩ := wv.at_ hwk
    rw [hk] at hwk'
    cases hwk'
    have two := jo.two
    have lo : LenOk (js.map (winOf box)) := win_lens jo
    have sml : ∀ w ∈ js.map (winOf box), _ := fun w hw => win_small bx jl hw
    have lw : (js.map (winOf box)).length = js.length := List.length_map ..
    have wne : js.map (winOf box) ≠ [] := fun z => by rw [z] at lw; simp at lw; omega
    refine ⟨_, rfl, x, C, dx, _, _, rfl, hx, cc.cl, cc.nw, lk_w _ _ _, _, rfl, pw, _, _, _, rfl, rfl, sq_tup hpw, atI_nat hwk, _, rfl, ?_⟩
    refine ⟨_, b, js, box, ul.length, rfl, wvk, jo, bv, bo, fun p l us H1 s1 hp hl nl lv => ?_⟩
    refine ⟨p, _, 0, _, rfl, rfl, sq_tup hp, rfl, ?_⟩
    have lus : us.length = js.length := by rw [lv.len, List.length_map, lw]
    obtain ⟨lm, lle⟩ := lowest_ok wne
    have md1 := md.kp (.of_same s1) a0
    have a1 := a0.same s1
    refine ⟨_, rfl, _, rfl, _, rfl, .ref x, b, k, ul, wl, goal, js, box, rfl, md1.tv, hk, jo, md1.bv, bo, fun p2 us2 H2 s2 hp2 lv2 => ?_⟩
    refine ⟨_, rfl, l, us, rfl, .inl ⟨sq_lst (s2 _ _ hl), fun p3 np3 => ?_⟩⟩
    have k3 := same_upd (o := .tup us) np3
    have s03 := (s1.trans s2).trans k3
    have s13 := s2.trans k3
    refine neLs (k3 _ _ hp2) (lv2.same k3) upd_same (lv.same s13) ⟨_, rfl, iteF ?_⟩
    generalize upd H2 p3 (.tup us) = H3 at *
    refine ⟨_, rfl, l, _, rfl, .inl (sq_lst (s13 _ _ hl)), js.length, (by rw [lus]; rfl), l5, fun l4 us4 H4 s4 nl4 hl4 sv => ?_⟩
    have gl := a0.fresh nl
    have a3 := a0.same s03
    have g4 := a3.fresh nl4
    have a4 := a3.same s4
    have s14 := s13.trans s4
    have s04 := s03.trans s4
    have md4 := md.kp (.of_same s04) a0
    have hl1 := s14 _ _ hl
    have lv1 := lv.same s14
    have lsq : us4.length = (seqs js.length).length := sv.len
    have few : (seqs js.length).length ≤ 120 := seqs_few _ l5
    refine ⟨4, rfl, by decide, by decide, for_range (lo := 0) (n := (4 : Int).toNat) (fun i σ H' => ∃ y6 y7, σ = [some (.ref h), some (.ref x), some (.int (k : Int)), some b, some (.ref l), some (.ref l4), y6, y7] ∧ HpAt H' h q ∧ Kpt h q H4 H')
      ⟨none, none, rfl, a4, .refl _ _ _⟩ (fun i σ H5 _ hI => ?_) (fun σ H5 hI => ?_)⟩
    · obtain ⟨y6, y7, rfl, a5, kp5⟩ := hI
      refine ⟨_, rfl, _, rfl, h, q, l4, us4, rfl, a5, kp5 _ _ hl4 g4.1 g4.2, g4.1, g4.2, ?_, by omega, fun v5 H6 m5 a6 kp6 => ?_⟩
      · intro z
        rw [z] at lsq
        have : [] ∈ seqs 0 := List.mem_cons_self ..
        have pos : ∀ n, 0 < (seqs n).length := fun n => List.length_pos_of_mem (perm_seqs (n := n) (s := List.range n) ⟨List.nodup_range, fun j => List.mem_range⟩)
        have := pos js.length
        simp at lsq
        omega
      obtain ⟨i5, hi5, e5⟩ := List.getElem_of_mem m5
      obtain ⟨s, ps, hs, rfl, hps⟩ := sv.at_ (show us4[i5]? = some v5 by rw [List.getElem?_eq_getElem hi5, e5])
      have pm := seqs_perm (List.mem_of_getElem? hs)
      have kp46 := kp5.trans kp6
      have tk46 := TK.kp kp46 a4
      have md6 := md4.kp kp46 a4
      have pm' : Perm (js.map (winOf box)).length s := by rw [lw]; exact pm
      have hps6 := tk46 _ _ hps
      have hl6 := kp46 _ _ hl1 gl.1 gl.2
      have lv6 := lv1.tk tk46
      refine ⟨_, rfl, _, rfl, _, rfl, _, rfl, .ref x, b, k, ul, wl, goal, js, box, ps, s, lowest (js.map (winOf box)), rfl, md6.tv, hk, jo, md6.bv, bo, hps6, fun j hj => (pm.mem j).mp hj, lle, fun e H7 s7 => ?_, fun f t' u H7 e s7 lf => ?_⟩
      · refine .inr ⟨rfl, ?_⟩
        refine ⟨_, rfl, _, rfl, l, ps, us, js.map (winOf box), s, lowest (js.map (winOf box)), rfl, s7 _ _ hl6, lv6.same s7, by omega, s7 _ _ hps6, fun j hj => (pm'.mem j).mp hj, lle, fun _ H8 s8 => .inr ⟨rfl, ?_⟩, fun f2 t2 u2 H8 e2 s8 lf2 => ?_⟩
        · exact ⟨rfl, _, rfl, ite2 (fun z => absurd z (by simp)) (fun _ => ⟨_, _, rfl, a6.same (s7.trans s8), kp46.trans (.of_same (s7.trans s8))⟩)⟩
        · rw [lw, e] at e2; cases e2
      · rw [← lw] at e
        obtain ⟨fl, fs⟩ := starts_small lo sml pm' e
        refine shownI lf fs (by omega) ?_
        refine ⟨_, rfl, _, rfl, l, ps, us, js.map (winOf box), s, lowest (js.map (winOf box)), rfl, s7 _ _ hl6, lv6.same s7, by omega, s7 _ _ hps6, fun j hj => (pm'.mem j).mp hj, lle, fun e2 H8 s8 => ?_, fun f2 t2 u2 H8 e2 s8 lf2 => ?_⟩
        · rw [e] at e2; cases e2
        · rw [e] at e2
          cases e2
          refine shownI lf2 fs (by omega) ?_
          exact ⟨rfl, _, rfl, ite2 (fun z => absurd z (by simp)) (fun _ => ⟨_, _, rfl, a6.same (s7.trans s8), kp46.trans (.of_same (s7.trans s8))⟩)⟩
    · obtain ⟨y6, y7, rfl, a5, kp5⟩ := hI
      exact fin _ a5 ((Kpt.of_same s04).trans kp5)
end
end M63

namespace M63
open PySem PySem.Spec PyProof.Rows L2 SX Own Gd
open C8 (Cal pe_c pe_gc pe_mk Mak pss_cut)
/-! ### a bench with no upper end in the way -/
def wideOf (a : Int) (box : List (List Int)) : List (List Int) := box.map fun r => [r.getD 0 0 + a, r.getD 0 0 + a + 90]
def freeU (a : Int) (ul : List Unk) : List Unk := ul.map fun u => (u.1, a - 99, a + 199)
theorem freeU_ok {a : Int} {ul : List Unk} (h : UnkOk ul) : UnkOk (freeU a ul) := by
  have l : (freeU a ul).length = ul.length := List.length_map ..
  refine ⟨by rw [l]; exact h.ne, by rw [l]; exact h.few, fun u hu => ?_, fun u hu => ?_, fun i u v hu hv => ?_⟩
  · obtain ⟨z, hz, rfl⟩ := List.mem_map.mp hu
    exact h.nm z hz
  · obtain ⟨z, hz, rfl⟩ := List.mem_map.mp hu
    show a - 99 ≤ a + 199
    omega
  · unfold freeU at hu hv
    rw [List.getElem?_map] at hu hv
    obtain ⟨z, hz, rfl⟩ := Option.map_eq_some_iff.mp hu
    obtain ⟨y, hy, rfl⟩ := Option.map_eq_some_iff.mp hv
    exact h.inc i z y hz hy
theorem wide_ok {n : Nat} {a : Int} {box : List (List Int)} (h : BoxOk n box) : BoxOk n (wideOf a box) := by
  refine ⟨by unfold wideOf; rw [List.length_map]; exact h.len, fun r hr => ?_⟩
  obtain ⟨z, _, rfl⟩ := List.mem_map.mp hr
  rfl
theorem wide_win {n : Nat} {a : Int} {box js : List (List Int)} (jo : JobsOk n 2 js) (bo : BoxOk n box) (bx : ∀ r ∈ box, ∀ c ∈ r, -5 ≤ c ∧ c ≤ 15) (jl : ∀ j ∈ js, j.getD 1 0 ≤ 10) {w : Win} (h : w ∈ js.map (winOf (wideOf a box))) : (-5 + a ≤ w.1 ∧ w.1 ≤ 15 + a) ∧ w.2.1 = w.1 + 90 ∧ w.2.2.1 ≤ 10 := by
  obtain ⟨j, hj, rfl⟩ := List.mem_map.mp h
  obtain ⟨p, l, rfl⟩ := two_of (jo.len j hj)
  obtain ⟨p0, p1⟩ := jo.wi p (List.mem_map.mpr ⟨_, hj, rfl⟩)
  obtain ⟨p, rfl⟩ := Int.eq_ofNat_of_zero_le p0
  have lp : p < box.length := by rw [bo.len]; omega
  have e : (wideOf a box).getD (placeOf [(p : Int), l]).toNat [] = [(box[p]).getD 0 0 + a, (box[p]).getD 0 0 + a + 90] := by
    show (wideOf a box).getD ((p : Int)).toNat [] = _
    rw [Int.toNat_natCast, List.getD_eq_getElem?_getD]
    unfold wideOf
    rw [List.getElem?_map, List.getElem?_eq_getElem lp]; rfl
  have b := getD_in (a := 0) (bx _ (List.getElem_mem lp))
  have g := jl _ hj
  unfold winOf
  rw [e]
  refine ⟨?_, ?_, g⟩
  · show -5 + a ≤ (box[p]).getD 0 0 + a ∧ (box[p]).getD 0 0 + a ≤ 15 + a
    omega
  · show (box[p]).getD 0 0 + a + 90 = (box[p]).getD 0 0 + a + 90
    rfl
theorem sumL_le {l : List Int} (h : ∀ c ∈ l, c ≤ 10) : sumL l ≤ 10 * l.length := by
  induction l with
  | nil => exact Int.le_refl _
  | cons c r ih =>
    have a := h c (List.mem_cons_self ..)
    have b := ih fun d hd => h d (List.mem_cons_of_mem _ hd)
    show c + sumL r ≤ 10 * ((r.length + 1 : Nat) : Int)
    omega
theorem sumL_sum : ∀ l : List Int, l.sum = sumL l
  | [] => rfl
  | c :: r => by
    show c + r.sum = c + sumL r
    rw [sumL_sum r]
theorem wide_due {n : Nat} {a : Int} {box js : List (List Int)} (jo : JobsOk n 2 js) (l5 : js.length ≤ 5) (bo : BoxOk n box) (bx : ∀ r ∈ box, ∀ c ∈ r, -5 ≤ c ∧ c ≤ 15) (jl : ∀ j ∈ js, j.getD 1 0 ≤ 10) {ws : List Win} (hw : js.map (winOf (wideOf a box)) = ws) {t0 : Int} (h0 : ∀ w ∈ ws, t0 ≤ w.1) :
    ∃ y, Tf ws ws.length t0 (2 ^ ws.length - 1) = some y ∧ (∃ w ∈ ws, y.1 = dueAt ws w.1) ∧ ∀ w ∈ ws, dueAt ws w.1 ≤ y.1 := by
  have lw : ws.length = js.length := by rw [← hw, List.length_map]
  have two := jo.two
  have al : ∀ w ∈ ws, _ := fun w h => wide_win jo bo bx jl (show w ∈ js.map (winOf (wideOf a box)) by rw [hw]; exact h)
  refine free_due (B := 15 + a) (Tf_tab ws _ t0 _) (by rw [← hw]; exact win_lens jo) (by omega) h0 (fun w h => (al w h).1.2) fun w h => ?_
  obtain ⟨h1, h2, _⟩ := al w h
  have s := sumL_le (l := ws.map (·.2.2.1)) fun c hc => by
    obtain ⟨z, hz, rfl⟩ := List.mem_map.mp hc
    exact (al z hz).2.2
  rw [List.length_map] at s
  omega
def DueI (ws : List Win) (zs : List Win) (b : Option Int) : Prop := match b with
  | none => zs = []
  | some m => (∃ w ∈ zs, m = dueAt ws w.1) ∧ ∀ w ∈ zs, dueAt ws w.1 ≤ m
theorem DueI.up {ws zs : List Win} {z : Win} {b : Option Int} (h : DueI ws zs b) (l : ∀ m, b = some m → m < dueAt ws z.1) : DueI ws (zs ++ [z]) (some (dueAt ws z.1)) := by
  refine ⟨⟨z, List.mem_append_right _ (List.mem_cons_self ..), rfl⟩, fun w hw => ?_⟩
  rcases mem_snoc hw with hw | rfl
  · cases b with
    | none => rw [show zs = [] from h] at hw; cases hw
    | some m =>
      have := l m rfl
      have := h.2 w hw
      omega
  · exact Int.le_refl _
theorem DueI.stay {ws zs : List Win} {z : Win} {m : Int} (h : DueI ws zs (some m)) (l : ¬ m < dueAt ws z.1) : DueI ws (zs ++ [z]) (some m) := by
  obtain ⟨⟨w0, h0, e0⟩, h2⟩ := h
  refine ⟨⟨w0, List.mem_append_left _ h0, e0⟩, fun w hw => ?_⟩
  rcases mem_snoc hw with hw | rfl
  · exact h2 w hw
  · omega
theorem DueI.is {ws : List Win} {b : Option Int} {e : Int} (h : DueI ws ws b) (n : ws ≠ []) (h1 : ∃ w ∈ ws, e = dueAt ws w.1) (h2 : ∀ w ∈ ws, dueAt ws w.1 ≤ e) : b = some e := by
  cases b with
  | none => exact absurd h n
  | some m =>
    obtain ⟨⟨w0, h0, e0⟩, g⟩ := h
    obtain ⟨w1, k0, k1⟩ := h1
    have a := h2 _ h0
    have b := g _ k0
    congr 1
    omega
section
variable {P : Program} {w : World} {K : PySem.W.Frag} {mg : Str → Option Value} {base : Heap} {aW aT : Addr} {es : Array DictEntry} {nn : Nat}
abbrev s_Lfree_right : Stmt := topS 51
abbrev n_Lfree_right : List Str := ["heap", "task", "k", "box", "away", "wide", "unknowns", "windows", "due", "first", "total", "told", "low", "high", "name", "window"]
theorem sc_Lfree_right : FnScope n_Lfree_right ["heap", "task", "k", "box"] (defScope s_Lfree_right) := ⟨rfl, rfl, rfl, by decide +kernel, rfl, by decide +kernel, by decide +kernel⟩
def spLFree (C : Addr) : Sp := fun vs H Q _ => ∃ (h q : Addr) (v b : V) (k : Nat) (ul : List Unk) (wl : List Wish) (goal : List Int) (js box : List (List Int)), vs = [.ref h, v, .int k, b] ∧ HpAt H h q ∧ Made C H v b k ul wl goal js box ∧ ∀ H', HpAt H' h q → Kpt h q H H' → Q (.bl true) H'
theorem ok_Lfree_right {f C CR : Addr} {fd : FuncData} (F : Fun K "_law_free_right" "_law_free_right" s_Lfree_right f fd) (T : Txt K mg w aW aT es nn) (cc : CC K C) (c_Lwindows : Cal P w K mg base 1 "_law_windows" spLWin []) (c_Lpick : Cal P w K mg base 2 "_law_pick" spPickL []) (m_Task : Mak P w K mg base 8 "Task" C (spTask C) []) (x_least_bench_end : CalX P w K mg base 5 "least_bench_end" (spLeast C CR)) : FnOk P w K mg base CX0 10 f fd ["heap", "task", "k", "box"] (spLFree C) := by
  refine F.ok sc_Lfree_right (fun vs H Q E h => ?_) (fun cdv A outer s0 H vs Q E hr h => ?_)
  · obtain ⟨h, q, v, b, k, ul, wl, goal, js, box, rfl, _⟩ := h
    rfl
  · obtain ⟨h, q, v, b, k, ul, wl, goal, js, box, rfl, a0, md, fin⟩ := h
    refine ⟨_, (pss_cons (ps_set (i := 4) sc_Lfree_right.nd rfl (.inr rfl) (pe_c c_Lpick hr (by decide) (by rfl) (pa_cons (pv 0) (pa_cons (pe_lst (pa_cons pe_int (pa_cons pe_int (pa_cons (pe_op op_sub pe_int pe_int) (pa_cons pe_int pa_nil))))) pa_nil))))
      (pss_cons (ps_set (i := 5) sc_Lfree_right.nd rfl (.inl rfl) (pe_callTy call_tuple_of (by rfl) T.b_tuple (by decide +kernel) (pa_cons (pe_lc (own := [("low", 12), ("high", 13)]) (g := gTup K 2 (gCons (gName 12) (gCons (gName 13) gNil))) rfl sc_Lfree_right.nd (pi_tup (pv 3)) (blkOk_by (N := n_Lfree_right) (sc := defScope s_Lfree_right) (by decide +kernel)) (fun _ _ _ _ _ => (pg_tup rfl (pgs_cons (pg_name (i := 12) sc_Lfree_right.nd rfl (.inl rfl)) (pgs_cons (pg_name (i := 13) sc_Lfree_right.nd rfl (.inl rfl)) pgs_nil)))) (fun _ _ _ _ _ => pts_nil) (fun _ _ _ _ _ => (pe_tup (pa_cons (pe_op op_add (pv 12) (pv 4)) (pa_cons (pe_op op_add (pe_op op_add (pv 12) (pv 4)) pe_int) pa_nil))))) pa_nil)))
      (pss_cons (ps_set (i := 6) sc_Lfree_right.nd rfl (.inl rfl) (pe_callTy call_tuple_of (by rfl) T.b_tuple (by decide +kernel) (pa_cons (pe_lc (own := [("name", 14), ("low", 12), ("high", 13)]) (g := gTup K 3 (gCons (gName 14) (gCons (gName 12) (gCons (gName 13) gNil)))) rfl sc_Lfree_right.nd (pi_tup (pe_fld (pv 1) (by rfl))) (blkOk_by (N := n_Lfree_right) (sc := defScope s_Lfree_right) (by decide +kernel)) (fun _ _ _ _ _ => (pg_tup rfl (pgs_cons (pg_name (i := 14) sc_Lfree_right.nd rfl (.inl rfl)) (pgs_cons (pg_name (i := 12) sc_Lfree_right.nd rfl (.inl rfl)) (pgs_cons (pg_name (i := 13) sc_Lfree_right.nd rfl (.inl rfl)) pgs_nil))))) (fun _ _ _ _ _ => pts_nil) (fun _ _ _ _ _ => (pe_tup (pa_cons (pv 14) (pa_cons (pe_op op_sub (pv 4) pe_int) (pa_cons (pe_op op_add (pv 4) pe_int) pa_nil)))))) pa_nil)))
      (pss_cons (ps_par (i := 7) (j := 8) (by rfl) sc_Lfree_right.nd rfl rfl (by decide) rfl rfl (pa_cons (pe_ix ix_tup (pe_c c_Lwindows hr (by decide) (by rfl) (pa_cons (pe_ix ix_tup (pe_fld (pv 1) (by rfl)) (pv 2) (fun _ _ => rfl)) (pa_cons (pv 5) pa_nil))) pe_int (fun _ _ => rfl)) (pa_cons pe_non pa_nil)) (by rfl))
      (pss_cut (ps_for PassesOwn.never rfl (pi_list (pv 7)) (pg_name (i := 9) sc_Lfree_right.nd rfl (.inr rfl)) (pss_cons (ps_set (i := 10) sc_Lfree_right.nd rfl (.inl rfl) (pe_op op_add (pe_ix ix_tup (pv 9) pe_int (fun _ _ => rfl)) (pe_callB (cr_sum rfl) (by rfl) T.b_sum (by decide +kernel) (pa_cons (pe_lc (own := [("window", 15)]) rfl sc_Lfree_right.nd (pi_list (pv 7)) (blkOk_by (N := n_Lfree_right) (sc := defScope s_Lfree_right) (by decide +kernel)) (fun _ _ _ _ _ => (pg_name (i := 15) sc_Lfree_right.nd rfl (.inl rfl))) (fun _ _ _ _ _ => (pts_one (pt_cmpR op_ge (pe_ix (r := rIxT K) ix_tup (pv 15) pe_int (fun _ _ => rfl)) (pe_ix (r := rIxT K) ix_tup (pv 9) pe_int (fun _ _ => rfl)) (nomark _)))) (fun _ _ _ _ _ => (pe_ix (r := rIxT K) ix_tup (pv 15) pe_int (fun _ _ => rfl)))) pa_nil))))
        (pss_one (ps_set (i := 8) sc_Lfree_right.nd rfl (.inl rfl) (pe_ifExp (PW.pt (pw_or (pt_cmpR op_isN (pv 8) pe_non (nomark _)) (pw_or1 (pt_cmpR op_gt (pv 10) (pv 8) (nomark _))))) (pv 10) (pv 8))))))
      (pss_cut (ps_set (i := 11) sc_Lfree_right.nd rfl (.inl rfl) (pe_x x_least_bench_end hr (by decide) (by rfl) (pa_cons (pe_mk m_Task hr (by decide) (by rfl) (pa_cons (pv 6) (pa_cons (pe_fld (pv 1) (by rfl)) (pa_cons (pe_fld (pv 1) (by rfl)) pa_nil)))) (pa_cons (pv 2) (pa_cons (pv 5) pa_nil)))))
      (pss_one (ps_ret (pe_and (pe_cmpR op_notN (pv 11) pe_non (nomark _)) (pe_one (pe_cmpR op_eq (pe_ix ix_tup (pv 11) pe_int (fun _ _ => rfl)) (pv 8) (nomark _)))))))))))), ?_⟩
    refine ⟨_, rfl, _, _, rfl, rfl, len4, fun p1 n1 => ?_⟩
    have k1 := same_upd (o := .lst [.int 0, .int 0, .int (0 - 100000), .int 5000]) n1
    obtain ⟨f1, f2⟩ := a0.fresh n1
    refine ⟨h, q, p1, _, rfl, a0.same k1, upd_same, f1, f2, by simp, by show 4 ≤ 1000; decide, fun v1 H1 m1 a1 kp1 => ?_⟩
    obtain ⟨away, hm, rfl⟩ := int_of (ns := [0, 0, 0 - 100000, 5000]) m1
    have bm := (by decide : ∀ z ∈ ([0, 0, 0 - 100000, 5000] : List Int), -100000 ≤ z ∧ z ≤ 5000) away hm
    have kp1 := (Kpt.of_same (h := h) (q := q) k1).trans kp1
    have md1 := md.kp kp1 a0
    obtain ⟨tv, hk, jo, l5, bv, bo, uo, wo, lg, l6, bx, jl⟩ := id md1
    obtain ⟨x, dx, pu, pw, pg, us0, ws', rfl, hx, hpu, uv, hpw, wv, hpg⟩ := id tv
    obtain ⟨pb, bs, rfl, hpb, lb⟩ := id bv
    have two := jo.two
    have lbs : bs.length = box.length := lb.len
    have lbo := bo.len
    have luv : us0.length = ul.length := uv.len
    -- the wide box
    refine ⟨_, rfl, pb, rfl, ⟨_, sq_tup hpb⟩, fun D nD => ?_⟩
    refine lc_tup (K := K) (a := pb) (xs := bs) (fun i H' => ∃ vs, H' D = some (.lst vs) ∧ LVs H' vs (wideOf away (box.take i)) ∧ Same H1 H') ⟨[], upd_same, .nil, same_upd nD⟩ (fun i H' _ h => by obtain ⟨_, _, _, sm⟩ := h; exact sq_tup (sm _ _ hpb)) ?_ ?_
    · rintro i y H2 hy ⟨vs, hD, fv, sm⟩
      obtain ⟨r, hr', pr, rfl, hpr⟩ := lb.at_ hy
      have li : i < box.length := (List.getElem?_eq_some_iff.mp hr').1
      obtain ⟨lo, hi, rfl⟩ := two_of (bo.two r (List.mem_of_getElem? hr'))
      refine ⟨pr, _, rfl, sq_tup (sm _ _ hpr), rfl, _, _, rfl, _, _, rfl, rfl, rfl, ?_⟩
      refine ⟨_, rfl, _, rfl, _, _, rfl, rfl, _, rfl, _, rfl, _, _, rfl, rfl, _, _, rfl, rfl, len2, fun t nt => ?_⟩
      have k3 := same_upd (o := .tup [.int (lo + away), .int (lo + away + 90)]) nt
      have hD3 := k3 _ _ hD
      refine ⟨_, hD3, (by rw [fv.len]; unfold wideOf; rw [List.length_map, List.length_take]; exact small1000 (by omega)), vs ++ [.ref t], upd_same, ?_, same_at (sm.trans k3) nD⟩
      rw [take_one hr']
      unfold wideOf
      rw [List.map_append]
      exact ((fv.same k3).app (.cons ⟨t, rfl, upd_same⟩ .nil)).at_new hD3 _
    rintro H2 ⟨vw, hD, fw, s2⟩
    rw [lbs, List.take_length] at fw
    refine ⟨D, vw, rfl, .inl ⟨sq_lst hD, fun pwd npwd => ?_⟩⟩
    have k3 := same_upd (o := .tup vw) npwd
    have s13 := s2.trans k3
    have hpwd : upd H2 pwd (.tup vw) pwd = some (.tup vw) := upd_same
    have fw := fw.same k3
    generalize upd H2 pwd (.tup vw) = H3 at *
    have jvw : JV H3 (.ref pwd) (wideOf away box) := ⟨pwd, vw, rfl, hpwd, fw⟩
    -- the names
    refine ⟨_, rfl, x, C, dx, _, _, rfl, s13 _ _ hx, cc.cl, cc.nu, lk_u _ _ _, pu, rfl, ⟨_, sq_tup (s13 _ _ hpu)⟩, fun D4 nD4 => ?_⟩
    have uv3 := uv.same s13
    refine lc_tup (K := K) (a := pu) (xs := us0) (fun i H' => ∃ vs, H' D4 = some (.lst vs) ∧ UVs H' vs (freeU away (ul.take i)) ∧ Same H3 H') ⟨[], upd_same, .nil, same_upd nD4⟩ (fun i H' _ h => by obtain ⟨_, _, _, sm⟩ := h; exact sq_tup (sm _ _ (s13 _ _ hpu))) ?_ ?_
    · rintro i y H2 hy ⟨vs, hD, fv, sm⟩
      obtain ⟨u, hu, pr, rfl, hpr⟩ := uv3.at_ hy
      have li : i < ul.length := (List.getElem?_eq_some_iff.mp hu).1
      refine ⟨pr, _, rfl, sq_tup (sm _ _ hpr), rfl, _, _, rfl, _, _, rfl, _, _, rfl, rfl, rfl, ?_⟩
      refine ⟨_, rfl, _, rfl, _, _, rfl, rfl, _, rfl, _, _, rfl, rfl, len3, fun t nt => ?_⟩
      have k3 := same_upd (o := .tup [.str u.1, .int (away - 99), .int (away + 199)]) nt
      have hD3 := k3 _ _ hD
      have lvs := fv.len
      have lfr : (freeU away (ul.take i)).length = (ul.take i).length := List.length_map ..
      refine ⟨_, hD3, (by rw [lvs, lfr, List.length_take]; exact small1000 (by omega)), vs ++ [.ref t], upd_same, ?_, same_at (sm.trans k3) nD4⟩
      rw [take_one hu]
      unfold freeU
      rw [List.map_append]
      exact ((fv.same k3).app ⟨t, rfl, upd_same⟩).tk (TK.put hD3)
    rintro H4 ⟨vu, hD4, fu, s4⟩
    rw [luv, List.take_length] at fu
    refine ⟨D4, vu, rfl, .inl ⟨sq_lst hD4, fun pun npun => ?_⟩⟩
    have k5 := same_upd (o := .tup vu) npun
    have s35 := s4.trans k5
    have hpun : upd H4 pun (.tup vu) pun = some (.tup vu) := upd_same
    have fu := fu.same k5
    generalize upd H4 pun (.tup vu) = H5 at *
    have s15 := s13.trans s35
    have jvw := jvw.same s35
    -- the windows
    have lk : k < ws'.length := by rw [wv.len]; exact (List.getElem?_eq_some_iff.mp hk).1
    have hwk : ws'[k]? = some ws'[k] := List.getElem?_eq_getElem lk
    obtain ⟨wk, hwk', wvk⟩ := wv.at_ hwk
    rw [hk] at hwk'
    cases hwk'
    have bow : BoxOk ul.length (wideOf away box) := wide_ok bo
    refine ⟨_, rfl, x, C, dx, _, _, rfl, s15 _ _ hx, cc.cl, cc.nw, lk_w _ _ _, _, rfl, pw, _, _, _, rfl, rfl, sq_tup (s15 _ _ hpw), atI_nat hwk, _, rfl, ?_⟩
    refine ⟨_, .ref pwd, js, wideOf away box, ul.length, rfl, wvk.same s15, jo, jvw, bow, fun p l us H6 s6 hp hl nl lv => ?_⟩
    refine ⟨p, _, 0, _, rfl, rfl, sq_tup hp, rfl, _, _, rfl, ?_⟩
    generalize hws : js.map (winOf (wideOf away box)) = ws at *
    have lw : ws.length = js.length := by rw [← hws, List.length_map]
    have lus : us.length = ws.length := by rw [lv.len, List.length_map]
    have wne : ws ≠ [] := fun z => by rw [z] at lw; simp at lw; omega
    obtain ⟨lm, lle⟩ := lowest_ok wne
    obtain ⟨ye, hye, due1, due2⟩ := wide_due jo l5 bo bx jl hws lle
    have lo : LenOk ws := by rw [← hws]; exact win_lens jo
    have lenF : (freeU away ul).length = ul.length := List.length_map ..
    have s16 := s15.trans s6
    refine ⟨fun σ H' => ∃ (due : Option Int) (y9 y10 : Option V), σ = [some (.ref h), some (.ref x), some (.int (k : Int)), some (.ref pb), some (.int away), some (.ref pwd), some (.ref pun), some (.ref l), some (bV due), y9, y10, none, none, none, none, none] ∧ Same H6 H' ∧ DueI ws ws due, ?_, fun σ H7 hM => ?_⟩
    · refine ⟨_, rfl, l, rfl, ⟨_, sq_lst hl⟩, for_list (K := K) (a := l) (xs := us) (fun i σ H' => ∃ (due : Option Int) (y9 y10 : Option V), σ = [some (.ref h), some (.ref x), some (.int (k : Int)), some (.ref pb), some (.int away), some (.ref pwd), some (.ref pun), some (.ref l), some (bV due), y9, y10, none, none, none, none, none] ∧ Same H6 H' ∧ DueI ws (ws.take i) due)
        ⟨none, none, none, rfl, Same.refl _, by rw [List.take_zero]; rfl⟩ (fun i σ H7 _ hI => ?_) (fun i y σ H7 hy hI => ?_) (fun σ H7 hI => ?_)⟩
      · obtain ⟨_, _, _, _, s7, _⟩ := hI
        exact sq_lst (s7 _ _ hl)
      · obtain ⟨due, y9, y10, rfl, s7, di⟩ := hI
        have hi : i < ws.length := by have := (List.getElem?_eq_some_iff.mp hy).1; omega
        obtain ⟨pj, huj, hpj⟩ := win_at lv hi
        rw [hy] at huj
        cases huj
        have hwi : ws[i]? = some (ws.getD i W0) := by rw [List.getD_eq_getElem?_getD, List.getElem?_eq_getElem hi]; rfl
        rw [take_one hwi]
        generalize ws.getD i W0 = wi at *
        refine ⟨_, rfl, pj, _, 0, _, rfl, rfl, sq_tup (s7 _ _ hpj), rfl, _, rfl, l, rfl, ⟨_, sq_lst (s7 _ _ hl)⟩, fun D7 nD7 => ?_⟩
        refine lc_list (K := K) (a := l) (xs := us) (fun j H' => H' D7 = some (.lst ((((ws.take j).filter (fun w => decide (wi.1 ≤ w.1))).map (·.2.2.1)).map V.int)) ∧ Same H7 H') ⟨upd_same, same_upd nD7⟩ (fun j H' _ hJ => sq_lst (hJ.2 _ _ (s7 _ _ hl))) (fun j z H8 hz hJ => ?_) (fun H8 hJ => ?_)
        · obtain ⟨hD7, s8⟩ := hJ
          have hj : j < ws.length := by have := (List.getElem?_eq_some_iff.mp hz).1; omega
          obtain ⟨pz, huz, hpz⟩ := win_at lv hj
          rw [hz] at huz
          cases huz
          have hwj : ws[j]? = some (ws.getD j W0) := by rw [List.getD_eq_getElem?_getD, List.getElem?_eq_getElem hj]; rfl
          rw [take_one hwj, List.filter_append]
          generalize ws.getD j W0 = wj at *
          have s78 := s7.trans s8
          refine ⟨rfl, _, rfl, pz, _, 0, _, rfl, rfl, sq_tup (s78 _ _ hpz), rfl, _, rfl, pj, _, 0, _, rfl, rfl, sq_tup (s78 _ _ hpj), rfl, _, _, rfl, rfl, _, rfl, ite2 (fun hc => ?_) (fun hc => ?_)⟩
          · refine ⟨_, rfl, pz, _, 2, _, rfl, rfl, sq_tup (s78 _ _ hpz), rfl, _, hD7, ?_, ?_, same_at s8 nD7⟩
            · rw [List.length_map, List.length_map]
              have := List.length_filter_le (fun w : Win => decide (wi.1 ≤ w.1)) (ws.take j)
              rw [List.length_take] at this
              exact small1000 (by omega)
            · rw [upd_same, List.filter_cons_of_pos (p := fun w : Win => decide (wi.1 ≤ w.1)) hc, List.map_append, List.map_append]; rfl
          · rw [List.filter_cons_of_neg (p := fun w : Win => decide (wi.1 ≤ w.1)) hc, List.filter_nil, List.append_nil]
            exact ⟨hD7, s8⟩
        · obtain ⟨hD7, s8⟩ := hJ
          rw [lus, List.take_length] at hD7
          refine ⟨D7, _, rfl, sq_lst hD7, _, _, rfl, rfl, ?_⟩
          have ed : wi.1 + ((ws.filter (fun w => decide (wi.1 ≤ w.1))).map (·.2.2.1)).sum = dueAt ws wi.1 := by rw [sumL_sum]; rfl
          rw [show (fun i j => V.int (i + j)) wi.1 ((ws.filter (fun w => decide (wi.1 ≤ w.1))).map (·.2.2.1)).sum = V.int (dueAt ws wi.1) from congrArg V.int ed]
          cases due with
          | none =>
            refine ⟨_, rfl, rfl, _, rfl, iteT (iteT ⟨_, rfl, ?_⟩)⟩
            exact ⟨some _, _, _, rfl, s7.trans s8, di.up fun m z => by cases z⟩
          | some m =>
            refine ⟨_, rfl, rfl, _, rfl, iteF ⟨_, rfl, _, rfl, _, _, rfl, rfl, _, rfl, ite2 (fun hc => ⟨_, rfl, ?_⟩) (fun hc => ⟨_, rfl, ?_⟩)⟩⟩
            · have hc : m < dueAt ws wi.1 := of_decide_eq_true hc
              exact ⟨some _, _, _, rfl, s7.trans s8, di.up fun m' z => by cases z; exact hc⟩
            · have hc : ¬ m < dueAt ws wi.1 := fun z => hc (decide_eq_true z)
              exact ⟨some m, _, _, rfl, s7.trans s8, di.stay hc⟩
      · obtain ⟨due, y9, y10, rfl, s7, di⟩ := hI
        rw [lus, List.take_length] at di
        exact ⟨due, y9, y10, rfl, s7, di⟩
    obtain ⟨due, y9, y10, rfl, s7, di⟩ := hM
    have edue := di.is wne due1 due2
    subst edue
    have s17 := s16.trans s7
    have s37 := (s35.trans s6).trans s7
    have s57 := s6.trans s7
    have a7 := a1.same s17
    refine ⟨fun σ H' => ∃ pt ut, σ = [some (.ref h), some (.ref x), some (.int (k : Int)), some (.ref pb), some (.int away), some (.ref pwd), some (.ref pun), some (.ref l), some (bV (some ye.1)), y9, y10, some (.ref pt), none, none, none, none] ∧ Same H7 H' ∧ H' pt = some (.tup [.int ye.1, ut]), ?_, fun σ H8 hM => ?_⟩
    · refine ⟨_, rfl, _, rfl, x, C, dx, _, _, rfl, s17 _ _ hx, cc.cl, cc.nw, lk_w _ _ _, _, rfl, x, C, dx, _, _, rfl, s17 _ _ hx, cc.cl, cc.ng, lk_g _ _ _, fun x2 dx2 nx2 ndx2 nxd => ?_⟩
      have y7 := same_upd (o := .own x2) ndx2
      have nx7 : upd H7 dx2 (.own x2) x2 = none := by rw [upd_ne nxd.symm]; exact nx2
      have y8' := y7.trans (same_upd (o := .ins C dx2 []) nx7)
      have z8 : upd (upd H7 dx2 (.own x2)) x2 (.ins C dx2 []) x2 = some (.ins C dx2 []) := upd_same
      generalize upd (upd H7 dx2 (.own x2)) x2 (.ins C dx2 []) = H8 at *
      have s18 := s17.trans y8'
      refine ⟨x2, dx2, pun, pw, pg, vu, ws', freeU away ul, wl, goal, rfl, z8, y8' _ _ (s57 _ _ hpun), (fu.same s57).same y8', s18 _ _ hpw, wv.same s18, s18 _ _ hpg, freeU_ok uo, by rw [lenF]; exact wo, by rw [lenF]; exact lg, fun H9 s9 => ⟨rfl, ?_⟩⟩
      have s79 : Same H7 (upd H9 x2 (.ins C dx2 [("unknowns", .ref pun), ("wishes", .ref pw), ("goal", .ref pg)])) := same_at (y8'.trans s9) nx2
      have ex : upd H9 x2 (.ins C dx2 [("unknowns", .ref pun), ("wishes", .ref pw), ("goal", .ref pg)]) x2 = some (.ins C dx2 [("unknowns", .ref pun), ("wishes", .ref pw), ("goal", .ref pg)]) := upd_same
      generalize upd H9 x2 (.ins C dx2 [("unknowns", .ref pun), ("wishes", .ref pw), ("goal", .ref pg)]) = H10 at *
      have s1A := s17.trans s79
      have s5A := s57.trans s79
      refine ⟨_, rfl, _, rfl, .ref x2, .ref pwd, k, freeU away ul, wl, goal, js, wideOf away box, rfl, ⟨x2, dx2, pun, pw, pg, vu, ws', rfl, ex, s5A _ _ hpun, fu.same s5A, s1A _ _ hpw, wv.same s1A, s1A _ _ hpg⟩, hk, by rw [lenF]; exact jo, jvw.same s5A, by rw [lenF]; exact bow, fun z => absurd z (by omega), fun _ hn => ?_, fun _ e s f p u H11 he ps hg s11 hp lf => ?_⟩
      · rw [hws, ← lw, hye] at hn; cases hn
      · rw [hws, ← lw, hye] at he
        cases he
        exact ⟨p, u, rfl, s79.trans s11, hp⟩
    obtain ⟨pt, ut, rfl, s8, hpt⟩ := hM
    refine ⟨_, rfl, rfl, _, rfl, iteT ⟨_, rfl, pt, _, 0, _, rfl, rfl, sq_tup hpt, rfl, _, rfl, rfl, ?_⟩⟩
    rw [show decide (V.int ye.1 = bV (some ye.1)) = true from decide_eq_true rfl]
    exact fin _ (a7.same s8) (kp1.trans (.of_same (s17.trans s8)))
end
end M63

namespace M63
open PySem PySem.Spec PyProof.Rows L2 SX Own Gd
open C8 (Cal pe_c pe_gc pe_mk Mak pss_cut)
/-! ### _law_heard, handed a lambda -/
abbrev s_Lheard : Stmt := topS 52
abbrev n_Lheard : List Str := ["work", "error"]
theorem sc_Lheard : FnScope n_Lheard ["work"] (defScope s_Lheard) := ⟨rfl, rfl, rfl, by decide +kernel, rfl, by decide +kernel, by decide +kernel⟩
/-- the two errors -/
structure Ex2 (K : PySem.W.Frag) (mg : Str → Option Value) (CN CR : Addr) : Prop where
  n : ∃ f, ExT K mg "InvalidNumber" CN f
  r : ∃ f, ExT K mg "Refused" CR f
  rn : PySem.W.exmOne K (.ref CR) (.ref CN) = some false
  rr : PySem.W.exmOne K (.ref CR) (.ref CR) = some true
/-- what is made of a refusal -/
def Caught (CR : Addr) (Q : VK) : XK := fun cls d H => ∃ (dd : Addr) (y : V), cls = .ref CR ∧ d = some dd ∧ H dd = some (.xd [("word", y)]) ∧ ∀ p, H p = none → Q (.ref p) (upd H p (.tup [.str "refused", y]))
def THeard (CR : Addr) : (XK → Hp → VK → Prop) → Hp → VK → Prop := fun tl H Q => tl (Caught CR Q) H (fun v H' => [V.str "told", v].length ≤ sizeLine ∧ ∀ p, H' p = none → Q (.ref p) (upd H' p (.tup [.str "told", v])))
theorem heard_gives {X : Cx} {g CN CR : Addr} {cdg : Value} {q : Str} (T : Ex2 X.K X.mg CN CR) : LamX.GivesTo X n_Lheard "_law_heard" (defScope s_Lheard) g cdg (defBody s_Lheard) "work" q (THeard CR) := by
  obtain ⟨fN, tN⟩ := T.n
  obtain ⟨fR, tR⟩ := T.r
  intro f c' s H Q tl act hc h
  refine ⟨_, pss_one (ps_try_named (X := (cxOf C8.CX0 X.prog X.w X.K X.mg X.base n_Lheard "_law_heard" (defScope s_Lheard) g cdg X.A X.stack s H C8.E0).nox) (i := 1) (n := "error") (Wout := fun _ _ _ _ => False)
      (tb := fun W D σ H => ∃ Ech : XK, (∀ cls d σ' H', Ech cls d H' → W cls d σ' H') ∧ σ[0]? = some (some (.ref f)) ∧ H c' = some (LamX.CodeO c' q) ∧ tl Ech H (fun v H' => [V.str "told", v].length ≤ sizeLine ∧ ∀ p, H' p = none → D.rt (.ref p) (upd H' p (.tup [.str "told", v]))))
      rfl rfl sc_Lheard.nd rfl rfl L2.takes0 (fun W pn xe tk _ => ?_)
      (.cons ⟨by rfl, by decide, .inl tN.gC⟩ (fun a oe cls d pn hz hf => pss_one (ps_ret (pe_tup (pa_cons pe_str (pa_cons (pe_xf tN.xf tN.noW hz hf (pv 1)) pa_nil)))))
      (.cons ⟨by rfl, by decide, .inl tR.gC⟩ (fun a oe cls d pn hz hf => pss_one (ps_ret (pe_tup (pa_cons pe_str (pa_cons (pe_xf tR.xf tR.noW hz hf (pv 1)) pa_nil))))) .nil))), ?_⟩
  · refine ⟨fun pins s' σ H' D I h' => ?_⟩
    obtain ⟨Ech, hW, h1, h2, h3⟩ := h'
    exact (pss_one (ps_ret (pe_tup (pa_cons pe_str (pa_cons (act W pn xe Ech _ _ tk hW) pa_nil))))).run pins s' σ H' D I ⟨h1, h2, h3⟩
  · refine ⟨Caught CR Q, fun cls d σ' H' hc => ?_, rfl, hc, ?_⟩
    · obtain ⟨dd, y, rfl, hd, hdd, k⟩ := hc
      have at1 : ∀ (a : Addr), 1 < σ'.length → (List.set σ' 1 (some (V.ref a)))[1]? = some (some (V.ref a)) := fun a hl => by rw [List.getElem?_set_self hl]
      exact ⟨false, T.rn, fun z => (nomatch z), fun _ => ⟨true, T.rr, fun _ a na hl => ⟨_, at1 a hl, rfl, rfl, dd, _, y, hd, hdd, rfl, len2, fun p np => k p np⟩, fun z => (nomatch z)⟩⟩
    · exact h
section
variable {X : Cx} {CN CR c P : Addr} {T : List (Addr × Str)} {k j : Nat} {params : Arguments} {body : Expr} {scope : Scope} {t : XK → TE} {p lpos pos : Pos}
theorem pe_heard (R : Df X.K X.mg "_law_heard" s_Lheard ["work"]) (E1 : Ex2 X.K X.mg CN CR) (TB : LamX.TabB X.base X.mg c P) (hcode : X.env.code = .ref c) (hmT : (P, X.env.qual ++ "<lambda>") ∈ T) (hu : ∀ p ∈ T, p.1 = P → p.2 = X.env.qual ++ "<lambda>")
    (hr : Room j X.A) (hk : k + 2 ≤ j) (hg : Gl X "_law_heard") (L : LamX.LamS X.env.scope scope) (hdef : defaultsOf params X.env = ([], []))
    (hbind : ∀ (q : Str) (cl : List (Str × Addr)) (pm cv ctv : Value), bindArgs (PySem.W.kla_fn "<lambda>" q params body scope cl pm cv ctv) ⟨[], []⟩ = pure [])
    (hbody : ∀ (A : Around) (outer : List Env) (s : Shared) (H : Hp) (E : XK) (f c' : Addr), Room k (A.deeper (LamX.lamEnv X scope s.heap.objs.size f c')) → PE (LamX.lamCx X A outer s H E scope f c') body (t E)) :
    PE X (.Call (.Name "_law_heard" p) [.Lambda params body scope lpos] [] pos) (LamX.tLam T (THeard CR) t) := by
  obtain ⟨g, fd, F, hm, b⟩ := R.ex
  have kp := F.kp
  obtain ⟨oc, od, kV, doc, pm, an, cdv, ct, osl, rfl, lk, hcd⟩ := F.ex
  exact LamX.pe_lamcall (Ng := n_Lheard) hg hm kp lk hcd b sc_Lheard rfl (.inl rfl) (heard_gives E1) TB hcode hmT hu (hr.mono hk) L hdef hbind hbody
end
end M63

namespace M63
open PySem PySem.Spec PyProof.Rows L2 SX Own Gd
open C8 (Cal pe_c pe_gc pe_mk Mak pss_cut)
/-! ### ten and eleven jobs -/
def nm2 (i : Nat) : Str := "a" ++ (⟨#[98 + i]⟩ : Str)
theorem nm2_all : ∀ i : Fin 11, nmB (nm2 i) = true := by decide +kernel
theorem nm2_lt_all : ∀ i : Fin 10, (nm2 i).cps.toList < (nm2 (i + 1)).cps.toList := by decide +kernel
theorem at_letter2 : ∀ i : Fin 11, ("bcdefghijkl" : Str).cps.toList[i.val]? = some (98 + i.val) := by decide +kernel
def ul2 (n : Nat) : List Unk := (List.range n).map fun i : Nat => (nm2 i, 0, 60)
def js2 (n : Nat) : List (List Int) := (List.range n).map fun i : Nat => [(i : Int), 1 + (i : Int) % 3]
def box2 (n : Nat) : List (List Int) := (List.range n).map fun i : Nat => [2 * (i : Int), 60]
theorem get_range {α : Type} {n i : Nat} {f : Nat → α} {u : α} (h : ((List.range n).map f)[i]? = some u) : i < n ∧ u = f i := by
  rw [List.getElem?_map] at h
  obtain ⟨a, ha, rfl⟩ := Option.map_eq_some_iff.mp h
  obtain ⟨l, e⟩ := List.getElem?_eq_some_iff.mp ha
  rw [List.getElem_range] at e
  rw [List.length_range] at l
  exact ⟨l, by rw [e]⟩
theorem ul2_ok {n : Nat} (h1 : 1 ≤ n) (h : n ≤ 11) : UnkOk (ul2 n) := by
  have l : (ul2 n).length = n := by unfold ul2; rw [List.length_map, List.length_range]
  refine ⟨by omega, by omega, fun u hu => ?_, fun u hu => ?_, fun i u v hu hv => ?_⟩
  · obtain ⟨i, hi, rfl⟩ := List.mem_map.mp hu
    exact nm_of (nm2_all ⟨i, by have := List.mem_range.mp hi; omega⟩)
  · obtain ⟨i, hi, rfl⟩ := List.mem_map.mp hu
    show (0 : Int) ≤ 60; decide
  · obtain ⟨a, rfl⟩ := get_range hu
    obtain ⟨b, rfl⟩ := get_range hv
    exact nm2_lt_all ⟨i, by omega⟩
theorem js2_ok {n : Nat} (h1 : 2 ≤ n) (h : n ≤ 11) : JobsOk n 2 (js2 n) := by
  have l : (js2 n).length = n := by unfold js2; rw [List.length_map, List.length_range]
  have pl : (js2 n).map placeOf = (List.range n).map (fun i : Nat => (i : Int)) := by unfold js2; rw [List.map_map]; rfl
  refine ⟨by omega, by omega, fun j hj => ?_, fun j hj c hc => ?_, ?_, ?_⟩
  · obtain ⟨i, hi, rfl⟩ := List.mem_map.mp hj
    rfl
  · obtain ⟨i, hi, rfl⟩ := List.mem_map.mp hj
    rw [List.mem_singleton.mp hc]; omega
  · rw [pl]
    have := inc_range (n := n) (fun _ => true)
    rw [List.filter_eq_self.mpr (fun _ _ => rfl)] at this
    exact this
  · rw [pl]
    have := within_range (n := n) (fun _ => true)
    rw [List.filter_eq_self.mpr (fun _ _ => rfl)] at this
    exact this
theorem box2_ok {n : Nat} : BoxOk n (box2 n) := by
  refine ⟨by unfold box2; rw [List.length_map, List.length_range], fun r hr => ?_⟩
  obtain ⟨i, hi, rfl⟩ := List.mem_map.mp hr
  rfl
def ws10 : List Win := (js2 10).map (winOf (box2 10))
theorem ws10_is : ws10 = [(0, 60, 1, 1), (2, 60, 2, 1), (4, 60, 3, 1), (6, 60, 1, 1), (8, 60, 2, 1), (10, 60, 3, 1), (12, 60, 1, 1), (14, 60, 2, 1), (16, 60, 3, 1), (18, 60, 1, 1)] := by decide +kernel
theorem due10 : (∀ w ∈ ws10, dueAt ws10 w.1 ≤ 20) ∧ ∃ w ∈ ws10, dueAt ws10 w.1 = 20 := by rw [ws10_is]; decide +kernel
theorem end10 {t0 : Int} (h0 : ∀ w ∈ ws10, t0 ≤ w.1) : ∃ z, Tf ws10 10 t0 (2 ^ 10 - 1) = some (20, z) := by
  have l : ws10.length = 10 := by rw [ws10_is]; rfl
  obtain ⟨y, hy, ⟨w0, k0, e0⟩, k1⟩ := free_due (B := 18) (ws := ws10) (Tf_tab ws10 ws10.length t0 _) (by rw [ws10_is]; unfold LenOk; decide +kernel) (by omega) h0 (by rw [ws10_is]; decide +kernel) (by rw [ws10_is]; decide +kernel)
  obtain ⟨d1, w1, k2, e2⟩ := due10
  have a := d1 _ k0
  have b := k1 _ k2
  have e : y.1 = 20 := by omega
  rw [l] at hy
  obtain ⟨y1, y2⟩ := y
  cases e
  exact ⟨y2, hy⟩
theorem LV.ext {H H' : Hp} {v : V} {a : List Int} (h : LV H v a) (s : LamX.ExtN H H') : LV H' v a := by
  obtain ⟨p, e, hp⟩ := h
  exact ⟨p, e, s _ _ hp (fun ps z => by cases z)⟩
theorem TK.ext {H H' : Hp} (s : LamX.ExtN H H') : TK H H' := fun a xs e => s _ _ e (fun ps z => by cases z)
theorem TaskV.ext {C : Addr} {H H' : Hp} {v : V} {ul : List Unk} {wl : List Wish} {goal : List Int} (t : TaskV C H v ul wl goal) (s : LamX.ExtN H H') : TaskV C H' v ul wl goal := by
  have tk := TK.ext s
  obtain ⟨x, dx, pu, pw, pg, us, ws, rfl, hx, hpu, uv, hpw, wv, hpg⟩ := t
  have wv' : WVs H' ws wl := by
    clear hpw
    induction wv with
    | nil => exact .nil
    | cons h _ ih => exact .cons (h.tk tk) ih
  exact ⟨x, dx, pu, pw, pg, us, ws, rfl, s _ _ hx (fun ps z => by cases z), tk _ _ hpu, uv.tk tk, tk _ _ hpw, wv', tk _ _ hpg⟩
theorem tabs_kp {T : List (Addr × Str)} {h q : Addr} {H H' : Hp} (t : LamX.Tabs T H) (a : HpAt H h q) (k : Kpt h q H H') : LamX.Tabs T H' := fun p hp => by
  obtain ⟨ps, h1, h2, h3⟩ := t p hp
  obtain ⟨cs, st, a⟩ := a
  refine ⟨ps, k _ _ h1 (Own.ne_of h1 a.hh (by intro z; cases z)) (Own.ne_of h1 a.hq (by intro z; cases z)), h2, fun pos cv hc => ?_⟩
  obtain ⟨c, e1, e2⟩ := h3 pos cv hc
  exact ⟨c, e1, k _ _ e2 (Own.ne_of e2 a.hh codeO_lst) (Own.ne_of e2 a.hq codeO_lst)⟩
theorem ul2_succ (i : Nat) : ul2 (i + 1) = ul2 i ++ [(nm2 i, 0, 60)] := by unfold ul2; rw [List.range_succ, List.map_append]; rfl
theorem js2_succ (i : Nat) : js2 (i + 1) = js2 i ++ [[(i : Int), 1 + (i : Int) % 3]] := by unfold js2; rw [List.range_succ, List.map_append]; rfl
theorem box2_succ (i : Nat) : box2 (i + 1) = box2 i ++ [[2 * (i : Int), 60]] := by unfold box2; rw [List.range_succ, List.map_append]; rfl
theorem ul2_len (n : Nat) : (ul2 n).length = n := by unfold ul2; rw [List.length_map, List.length_range]
theorem js2_len (n : Nat) : (js2 n).length = n := by unfold js2; rw [List.length_map, List.length_range]
theorem box2_len (n : Nat) : (box2 n).length = n := by unfold box2; rw [List.length_map, List.length_range]
section
variable {P : Program} {w : World} {K : PySem.W.Frag} {mg : Str → Option Value} {base : Heap} {aW aT : Addr} {es : Array DictEntry} {nn : Nat}
abbrev s_Lmany_right : Stmt := topS 53
abbrev n_Lmany_right : List Str := ["many", "unknowns", "heard", "box", "task", "at"]
theorem sc_Lmany_right : FnScope n_Lmany_right ["many"] (defScope s_Lmany_right) := ⟨rfl, rfl, rfl, by decide +kernel, rfl, by decide +kernel, by decide +kernel⟩
abbrev qM : Str := (envOfC "_law_many_right" (defScope s_Lmany_right) 0 0 .none).qual ++ "<lambda>"
def spMany (T : List (Addr × Str)) : Sp := fun vs H Q _ => ∃ n : Nat, vs = [.int (n : Int)] ∧ (n = 10 ∨ n = 11) ∧ LamX.Tabs T H ∧ ∀ H', LamX.ExtN H H' → LamX.Tabs T H' → Q (.bl true) H'
theorem ok_Lmany_right {f c PA C CN CR : Addr} {T0 : List (Addr × Str)} {fd : FuncData} (F : FunC K "_law_many_right" "_law_many_right" s_Lmany_right f fd c) (TB : LamX.TabB base mg c PA) (HM : (PA, qM) ∈ T0) (HU : ∀ p ∈ T0, p.1 = PA → p.2 = qM)
    (R : Df K mg "_law_heard" s_Lheard ["work"]) (E1 : Ex2 K mg CN CR) (T : Txt K mg w aW aT es nn) (cc : CC K C) (m_Task : Mak P w K mg base 8 "Task" C (spTask C) []) (x_least_bench_end : CalX P w K mg base 5 "least_bench_end" (spLeast C CR)) (c_Lwindows : Cal P w K mg base 1 "_law_windows" spLWin []) (c_Lare_kept : Cal P w K mg base 1 "_law_are_kept" spKept []) : FnOk P w K mg base CX0 10 f fd ["many"] (spMany T0) := by
  refine F.ok sc_Lmany_right (fun vs H Q E h => ?_) (fun A outer s0 H vs Q E hr h => ?_)
  · obtain ⟨n, rfl, _⟩ := h
    rfl
  · obtain ⟨n, rfl, nn', ht, fin⟩ := h
    refine ⟨_, (pss_cons (ps_set (i := 1) sc_Lmany_right.nd rfl (.inl rfl) (pe_callTy call_tuple_of (by rfl) T.b_tuple (by decide +kernel) (pa_cons (pe_lc (own := [("at", 5)]) rfl sc_Lmany_right.nd (pi_range1 (by rfl) T.b_range (pa_cons (pv 0) pa_nil)) (blkOk_by (N := n_Lmany_right) (sc := defScope s_Lmany_right) (by decide +kernel)) (fun _ _ _ _ _ => (pg_name (i := 5) sc_Lmany_right.nd rfl (.inl rfl))) (fun _ _ _ _ _ => pts_nil) (fun _ _ _ _ _ => (pe_tup (pa_cons (pe_op op_add_str pe_str (pe_ix (r := rIxS) ix_str pe_str (pv 5) (fun _ _ => rfl))) (pa_cons pe_int (pa_cons pe_int pa_nil)))))) pa_nil)))
      (pss_cons (ps_set (i := 4) sc_Lmany_right.nd rfl (.inr rfl) (pe_mk m_Task hr (by decide) (by rfl) (pa_cons (pv 1) (pa_cons (pe_tup (pa_cons (pe_tup (pa_cons pe_str (pa_cons (pe_callTy call_tuple_of (by rfl) T.b_tuple (by decide +kernel) (pa_cons (pe_lc (own := [("at", 5)]) rfl sc_Lmany_right.nd (pi_range1 (by rfl) T.b_range (pa_cons (pv 0) pa_nil)) (blkOk_by (N := n_Lmany_right) (sc := defScope s_Lmany_right) (by decide +kernel)) (fun _ _ _ _ _ => (pg_name (i := 5) sc_Lmany_right.nd rfl (.inl rfl))) (fun _ _ _ _ _ => pts_nil) (fun _ _ _ _ _ => (pe_tup (pa_cons (pv 5) (pa_cons (pe_op op_add pe_int (pe_op op_mod (pe_callTy call_int1 (by rfl) T.b_int (by decide +kernel) (pa_cons (pv 5) pa_nil)) pe_int)) pa_nil))))) pa_nil)) pa_nil))) pa_nil)) (pa_cons (pe_op op_repT (pe_tup (pa_cons pe_int pa_nil)) (pv 0)) pa_nil)))))
      (pss_cons (ps_set (i := 3) sc_Lmany_right.nd rfl (.inr rfl) (pe_callTy call_tuple_of (by rfl) T.b_tuple (by decide +kernel) (pa_cons (pe_lc (own := [("at", 5)]) rfl sc_Lmany_right.nd (pi_range1 (by rfl) T.b_range (pa_cons (pv 0) pa_nil)) (blkOk_by (N := n_Lmany_right) (sc := defScope s_Lmany_right) (by decide +kernel)) (fun _ _ _ _ _ => (pg_name (i := 5) sc_Lmany_right.nd rfl (.inl rfl))) (fun _ _ _ _ _ => pts_nil) (fun _ _ _ _ _ => (pe_tup (pa_cons (pe_op op_mul pe_int (pv 5)) (pa_cons pe_int pa_nil))))) pa_nil)))
      (pss_cut (ps_set (i := 2) sc_Lmany_right.nd rfl (.inl rfl) (pe_heard (k := 6) R E1 TB rfl HM HU hr (by decide) (by rfl) (LamX.lamS_by (show LamX.lamSB (defScope s_Lmany_right) _ = true from (by decide +kernel))) rfl (fun _ _ _ _ _ => rfl) (fun A outer s H E f c2 hr => pe_xE (passes_call (takes_of rfl rfl rfl rfl) fun _ _ _ _ z => z) x_least_bench_end hr (by decide) (by rfl) (pa_cons (pv 4) (pa_cons pe_int (pa_cons (pv 3) pa_nil))))))
      (pss_cons (ps_if (pt_cmpR op_gt (pv 0) pe_int (nomark _)) (pss_one (ps_ret (pe_cmpR (op_eqD hr.units) (pv 2) (pe_tup (pa_cons pe_str (pa_cons pe_str pa_nil))) (nomark _)))) pss_nil)
      (pss_one (ps_ret (pe_and (pe_cmpR op_eq (pe_ix ix_tup (pv 2) pe_int (fun _ _ => rfl)) pe_str (nomark _)) (pe_and (pe_cmpR op_eq (pe_ix ix_tup (pe_ix ix_tup (pv 2) pe_int (fun _ _ => rfl)) pe_int (fun _ _ => rfl)) pe_int (nomark _)) (pe_one (pe_c c_Lare_kept hr (by decide) (by rfl) (pa_cons (pe_ix ix_tup (pe_c c_Lwindows hr (by decide) (by rfl) (pa_cons (pe_ix ix_tup (pe_fld (pv 4) (by rfl)) pe_int (fun _ _ => rfl)) (pa_cons (pv 3) pa_nil))) pe_int (fun _ _ => rfl)) (pa_cons (pe_ix ix_tup (pe_ix ix_tup (pv 2) pe_int (fun _ _ => rfl)) pe_int (fun _ _ => rfl)) pa_nil))))))))))))), ?_⟩
    have n10 : 10 ≤ n ∧ n ≤ 11 := by omega
    -- the unknowns
    refine ⟨_, rfl, (n : Int), rfl, by omega, by omega, fun D nD => ?_⟩
    refine lc_range (lo := 0) (n := ((n : Int)).toNat) (fun i H' => ∃ vs, H' D = some (.lst vs) ∧ UVs H' vs (ul2 i) ∧ Same H H') ⟨[], upd_same, .nil, same_upd nD⟩ (fun i H1 hi hI => ?_) (fun H1 hI => ?_)
    · obtain ⟨vs, hD, fv, sm⟩ := hI
      rw [show ((0 : Int) + (i : Nat)) = (i : Int) by omega]
      rw [Int.toNat_natCast] at hi
      have lvs := fv.len
      rw [ul2_len] at lvs
      refine ⟨rfl, _, rfl, ("bcdefghijkl" : Str), (i : Int), 98 + i, rfl, rfl, by decide, atI_nat (at_letter2 ⟨i, by omega⟩), _, _, rfl, rfl, ?_, ?_⟩
      · rw [sizeLine_eq]; show 1 + 1 ≤ _; decide
      rw [show ("a" : Str) ++ (⟨#[98 + i]⟩ : Str) = nm2 i from rfl]
      refine ⟨len3, fun t nt => ?_⟩
      have k3 := same_upd (o := .tup [.str (nm2 i), .int 0, .int 60]) nt
      have hD3 := k3 _ _ hD
      refine ⟨_, hD3, small1000 (by omega), vs ++ [.ref t], upd_same, ?_, same_at (sm.trans k3) nD⟩
      rw [ul2_succ]
      exact ((fv.same k3).app ⟨t, rfl, upd_same⟩).tk (TK.put hD3)
    obtain ⟨vu, hD, fu, s1⟩ := hI
    rw [Int.toNat_natCast] at fu
    refine ⟨D, vu, rfl, .inl ⟨sq_lst hD, fun pu npu => ?_⟩⟩
    have k2 := same_upd (o := .tup vu) npu
    have s02 := s1.trans k2
    have hpu : upd H1 pu (.tup vu) pu = some (.tup vu) := upd_same
    have fu := fu.same k2
    generalize upd H1 pu (.tup vu) = H2 at *
    -- the jobs
    refine ⟨_, rfl, _, rfl, (n : Int), rfl, by omega, by omega, fun D2 nD2 => ?_⟩
    refine lc_range (lo := 0) (n := ((n : Int)).toNat) (fun i H' => ∃ vs, H' D2 = some (.lst vs) ∧ LVs H' vs (js2 i) ∧ Same H2 H') ⟨[], upd_same, .nil, same_upd nD2⟩ (fun i H3 hi hI => ?_) (fun H3 hI => ?_)
    · obtain ⟨vs, hD, fv, sm⟩ := hI
      rw [show ((0 : Int) + (i : Nat)) = (i : Int) by omega]
      rw [Int.toNat_natCast] at hi
      have lvs := fv.len
      rw [js2_len] at lvs
      refine ⟨rfl, _, rfl, _, rfl, .inl ⟨_, rfl, _, _, rfl, rfl, (by show (0 : Int) < 3; decide), _, _, rfl, rfl, len2, fun t nt => ?_⟩⟩
      have k3 := same_upd (o := .tup [.int (i : Int), .int (1 + (i : Int) % 3)]) nt
      have hD3 := k3 _ _ hD
      refine ⟨_, hD3, small1000 (by omega), vs ++ [.ref t], upd_same, ?_, same_at (sm.trans k3) nD2⟩
      rw [js2_succ]
      exact ((fv.same k3).app (.cons ⟨t, rfl, upd_same⟩ .nil)).at_new hD3 _
    obtain ⟨vj, hD2, fj, s3⟩ := hI
    rw [Int.toNat_natCast] at fj
    refine ⟨D2, vj, rfl, .inl ⟨sq_lst hD2, fun pj npj => ⟨len2, fun pw npw => ⟨len1, fun pws npws => ⟨len1, fun z0 nz0 => ⟨_, rfl, z0, _, _, rfl, rfl, sq_tup upd_same, by simp, by omega, by omega, by decide, fun pg npg => fun x dx nx ndx nxd => ?_⟩⟩⟩⟩⟩⟩
    rw [Int.toNat_natCast, rep0] at *
    have lul := ul2_len n
    have ljs := js2_len n
    have y1 := same_upd (o := .tup vj) npj
    have z1 : upd H3 pj (.tup vj) pj = some (.tup vj) := upd_same
    have fj := fj.same y1
    generalize upd H3 pj (.tup vj) = H4 at *
    have y2 := same_upd (o := .tup [.str "bench", .ref pj]) npw
    have w2 : WV (upd H4 pw (.tup [.str "bench", .ref pj])) (.ref pw) (.bench (js2 n)) := ⟨pw, _, rfl, upd_same, pj, vj, rfl, y2 _ _ z1, fj.same y2⟩
    generalize upd H4 pw (.tup [.str "bench", .ref pj]) = H5 at *
    have y3 := same_upd (o := .tup [.ref pw]) npws
    have z3 : upd H5 pws (.tup [.ref pw]) pws = some (.tup [.ref pw]) := upd_same
    generalize upd H5 pws (.tup [.ref pw]) = H6 at *
    have y4 := same_upd (o := .tup [.int 0]) nz0
    generalize upd H6 z0 (.tup [.int 0]) = H7 at *
    have y5 := same_upd (o := .tup ((List.replicate n (0 : Int)).map V.int)) npg
    have z5 : upd H7 pg (.tup ((List.replicate n (0 : Int)).map V.int)) pg = some (tI (List.replicate n 0)) := upd_same
    generalize upd H7 pg (.tup ((List.replicate n (0 : Int)).map V.int)) = H8 at *
    have y6 := same_upd (o := .own x) ndx
    have nx6 : upd H8 dx (.own x) x = none := by rw [upd_ne nxd.symm]; exact nx
    have y7 := y6.trans (same_upd (o := .ins C dx []) nx6)
    have z7 : upd (upd H8 dx (.own x)) x (.ins C dx []) x = some (.ins C dx []) := upd_same
    generalize upd (upd H8 dx (.own x)) x (.ins C dx []) = H9 at *
    have t28 := (((s3.trans y1).trans y2).trans y3).trans (y4.trans y5)
    have t58 := y3.trans (y4.trans y5)
    have t68 := y4.trans y5
    have wok : ∀ z ∈ [Wish.bench (js2 n)], WishOk (ul2 n).length z := fun z hz => by
      rw [List.mem_singleton.mp hz, lul]; exact js2_ok (by omega) (by omega)
    have lrep : (List.replicate n (0 : Int)).length = (ul2 n).length := by rw [List.length_replicate, lul]
    refine ⟨x, dx, pu, pws, pg, vu, [.ref pw], ul2 n, [.bench (js2 n)], List.replicate n 0, rfl, z7, (t28.trans y7) _ _ hpu, fu.same (t28.trans y7), (t68.trans y7) _ _ z3, .cons (w2.same (t58.trans y7)) .nil, y7 _ _ z5, ul2_ok (by omega) (by omega), wok, lrep, fun H10 s10 => ⟨rfl, ?_⟩⟩
    have t8A : Same H8 (upd H10 x (.ins C dx [("unknowns", .ref pu), ("wishes", .ref pws), ("goal", .ref pg)])) := same_at (y7.trans s10) nx
    have ex : upd H10 x (.ins C dx [("unknowns", .ref pu), ("wishes", .ref pws), ("goal", .ref pg)]) x = some (.ins C dx [("unknowns", .ref pu), ("wishes", .ref pws), ("goal", .ref pg)]) := upd_same
    generalize upd H10 x (.ins C dx [("unknowns", .ref pu), ("wishes", .ref pws), ("goal", .ref pg)]) = HA at *
    have s0A := s02.trans (t28.trans t8A)
    have tv : TaskV C HA (.ref x) (ul2 n) [.bench (js2 n)] (List.replicate n 0) := ⟨x, dx, pu, pws, pg, vu, [.ref pw], rfl, ex, (t28.trans t8A) _ _ hpu, fu.same (t28.trans t8A), (t68.trans t8A) _ _ z3, .cons (w2.same (t58.trans t8A)) .nil, t8A _ _ z5⟩
    -- the box
    refine ⟨_, rfl, (n : Int), rfl, by omega, by omega, fun D3 nD3 => ?_⟩
    refine lc_range (lo := 0) (n := ((n : Int)).toNat) (fun i H' => ∃ vs, H' D3 = some (.lst vs) ∧ LVs H' vs (box2 i) ∧ Same HA H') ⟨[], upd_same, .nil, same_upd nD3⟩ (fun i HB hi hI => ?_) (fun HB hI => ?_)
    · obtain ⟨vs, hD, fv, sm⟩ := hI
      rw [show ((0 : Int) + (i : Nat)) = (i : Int) by omega]
      rw [Int.toNat_natCast] at hi
      have lvs := fv.len
      rw [box2_len] at lvs
      refine ⟨rfl, _, rfl, _, _, rfl, rfl, .inl ⟨by decide, by decide⟩, len2, fun t nt => ?_⟩
      have k3 := same_upd (o := .tup [.int (2 * (i : Int)), .int 60]) nt
      have hD3 := k3 _ _ hD
      refine ⟨_, hD3, small1000 (by omega), vs ++ [.ref t], upd_same, ?_, same_at (sm.trans k3) nD3⟩
      rw [box2_succ]
      exact ((fv.same k3).app (.cons ⟨t, rfl, upd_same⟩ .nil)).at_new hD3 _
    obtain ⟨vb, hD3, fb, sB⟩ := hI
    rw [Int.toNat_natCast] at fb
    refine ⟨D3, vb, rfl, .inl ⟨sq_lst hD3, fun pb npb => ?_⟩⟩
    have k4 := same_upd (o := .tup vb) npb
    have jb : JV (upd HB pb (.tup vb)) (.ref pb) (box2 n) := ⟨pb, vb, rfl, upd_same, fb.same k4⟩
    have tv := tv.same (sB.trans k4)
    have s0C := s0A.trans (sB.trans k4)
    generalize upd HB pb (.tup vb) = HC at *
    have ht : LamX.Tabs T0 HC := fun p hp => (ht p hp).ext s0C
    have jo := js2_ok (n := n) (by omega) (by omega)
    have jo' : JobsOk (ul2 n).length 2 (js2 n) := by rw [lul]; exact jo
    have bo' : BoxOk (ul2 n).length (box2 n) := by rw [lul]; exact box2_ok
    refine ⟨fun σ H' => ∃ ph, σ = [some (.int (n : Int)), some (.ref pu), some (.ref ph), some (.ref pb), some (.ref x), none] ∧ LamX.ExtN HC H' ∧ LamX.Tabs T0 H' ∧ ((n = 11 ∧ H' ph = some (.tup [.str "refused", .str "wide"])) ∨ (n = 10 ∧ ∃ e s f p u z, Perm 10 s ∧ goT ((js2 n).map (winOf (box2 n))) s (List.replicate 10 0) (lowest ((js2 n).map (winOf (box2 n)))) = some (f, e) ∧ Tf ((js2 n).map (winOf (box2 n))) 10 (lowest ((js2 n).map (winOf (box2 n)))) (2 ^ 10 - 1) = some (e, z) ∧ H' ph = some (.tup [.str "told", .ref p]) ∧ H' p = some (.tup [.int e, u]) ∧ LV H' u f)), ?_, fun σ HD hM => ?_⟩
    · refine ⟨ht, fun H1' x1 ht1 => ?_⟩
      refine ⟨_, rfl, _, rfl, .ref x, .ref pb, 0, ul2 n, [.bench (js2 n)], List.replicate n 0, js2 n, box2 n, rfl, tv.ext x1, rfl, jo', jb.tk (TK.ext x1), bo', fun l10 d H2' s2' hd => ?_, fun l10 hn H2' s2' => ?_, fun l10 z s f p u H2' he pm hg s2' hp lf => ?_⟩
      · rw [ljs] at l10
        exact ⟨d, .str "wide", rfl, rfl, hd, fun p np => ⟨p, rfl, x1.trans (ext_of (s2'.trans (same_upd np))), fun p' hp' => ((ht1 p' hp').ext s2').ext (same_upd np), .inl ⟨by omega, upd_same⟩⟩⟩
      · rw [ljs] at l10 hn
        obtain rfl : n = 10 := by omega
        obtain ⟨z, hz⟩ := end10 (lowest_ok (ws := ws10) (by rw [ws10_is]; simp)).2
        have hn : Tf ws10 10 (lowest ws10) (2 ^ 10 - 1) = none := hn
        rw [hz] at hn; cases hn
      · rw [ljs] at l10 pm hg he
        obtain rfl : n = 10 := by omega
        refine ⟨len2, fun ph nph => ⟨ph, rfl, x1.trans (ext_of (s2'.trans (same_upd nph))), fun p' hp' => ((ht1 p' hp').ext s2').ext (same_upd nph), .inr ⟨rfl, z.1, s, f, p, u, z.2, pm, hg, he, upd_same, same_upd nph _ _ hp, lf.same (same_upd nph)⟩⟩⟩
    obtain ⟨ph, rfl, xD, htD, cs⟩ := hM
    have xH : LamX.ExtN H HD := (ext_of s0C).trans xD
    have tvD := tv.ext xD
    have jbD := jb.tk (TK.ext xD)
    rcases cs with ⟨rfl, hph⟩ | ⟨rfl, e, s, f, p, u, z, pm, hg, he, hph, hp, lf⟩
    · refine ⟨_, rfl, _, _, rfl, rfl, _, rfl, iteT ?_⟩
      refine ⟨_, rfl, len2, fun t nt => ?_⟩
      have k := same_upd (o := .tup [.str "refused", .str "wide"]) nt
      have sh : SeqAt.shaped (.tuple [.str "refused", .str "wide"]) = true := by
        unfold SeqAt.shaped
        simp [PyData.canLay0, PyData.canLayAll0, PyData.depth, PyData.depthAll]
        exact ⟨by decide +kernel, by decide +kernel⟩
      refine ⟨_, _, .tup (sq_tup (k _ _ hph)) (.cons (.str _) (.cons (.str _) .nil)), .tup (sq_tup upd_same) (.cons (.str _) (.cons (.str _) .nil)), sh, sh, ?_⟩
      rw [SeqAt.eqv_refl _ (SeqAt.canLay_of_shaped sh)]
      exact fin _ (xH.trans (ext_of k)) (fun p' hp' => (htD p' hp').ext k)
    · refine ⟨_, rfl, _, _, rfl, rfl, _, rfl, iteF ?_⟩
      have e20 : e = 20 := by
        obtain ⟨z', hz⟩ := end10 (lowest_ok (ws := ws10) (by rw [ws10_is]; simp)).2
        have he : Tf ws10 10 (lowest ws10) (2 ^ 10 - 1) = some (e, z) := he
        rw [hz] at he
        cases he; rfl
      subst e20
      obtain ⟨x', dx', pu', pw', pg', us', ws', ex', hx', hpu', uv', hpw', wv', hpg'⟩ := id tvD
      cases ex'
      cases wv' with
      | cons w1 w0 =>
      cases w0
      refine ⟨_, rfl, ph, _, 0, _, rfl, rfl, sq_tup hph, rfl, rfl, _, rfl, ite2 (fun _ => ?_) (fun h => absurd (decide_eq_true rfl) h)⟩
      refine ⟨_, rfl, ph, _, 1, _, rfl, rfl, sq_tup hph, rfl, p, _, 0, _, rfl, rfl, sq_tup hp, rfl, rfl, _, rfl, ite2 (fun _ => ?_) (fun h => absurd (decide_eq_true rfl) h)⟩
      refine ⟨_, rfl, x, C, dx', _, _, rfl, hx', cc.cl, cc.nw, lk_w _ _ _, pw', _, 0, _, rfl, rfl, sq_tup hpw', rfl, _, rfl, ?_⟩
      refine ⟨_, .ref pb, js2 10, box2 10, 10, rfl, w1, jo, jbD, box2_ok, fun p3 l3 us3 HE sE hp3 hl3 nl3 lv3 => ?_⟩
      refine ⟨p3, _, 0, _, rfl, rfl, sq_tup hp3, rfl, _, rfl, ph, _, 1, _, rfl, rfl, sq_tup (sE _ _ hph), rfl, p, _, 1, _, rfl, rfl, sq_tup (sE _ _ hp), rfl, ?_⟩
      have lw : ((js2 10).map (winOf (box2 10))).length = 10 := by rw [List.length_map, js2_len]
      have lo : LenOk ((js2 10).map (winOf (box2 10))) := win_lens jo
      have l0 : (List.replicate 10 (0 : Int)).length = ((js2 10).map (winOf (box2 10))).length := by rw [lw]; rfl
      have g := goT_ok lo pm.nd (fun j hj => by rw [lw]; exact (pm.mem j).mp hj) l0 hg
      refine ⟨l3, u, us3, (js2 10).map (winOf (box2 10)), f, rfl, hl3, lv3, by rw [lw]; decide, lf.same sE, g.len.trans l0, fun j hj => ?_, fun i j hi hj ne => g.apart i ((pm.mem i).mpr (by omega)) j ((pm.mem j).mpr (by omega)) ne, ?_⟩
      · have := g.win j ((pm.mem j).mpr (by omega))
        exact ⟨this.1, this.2.1⟩
      · exact fin _ (xH.trans (ext_of sE)) (fun p' hp' => (htD p' hp').ext sE)
end
end M63

namespace M63
open PySem PySem.Spec PyProof.Rows L2 SX Own Gd
open C8 (Cal pe_c pe_gc pe_mk Mak pss_cut)
/-! ### the law's own task -/
def js3 : List (List Int) := [[0, 2], [1, 3], [2, 4]]
def ul3 : List Unk := [("a", 0, 9), ("b", 0, 9), ("c", 0, 9)]
theorem ul3_ok : UnkOk ul3 := by
  refine ⟨by decide, by decide, fun u hu => ?_, by decide, fun i u v hu hv => ?_⟩
  · have : nmB u.1 = true := by
      revert u
      decide +kernel
    exact nm_of this
  · match i, hu, hv with
    | 0, hu, hv => cases hu; cases hv; decide +kernel
    | 1, hu, hv => cases hu; cases hv; decide +kernel
    | 2, hu, hv => simp [ul3] at hv
    | i + 3, hu, hv => simp [ul3] at hu
theorem js3_ok : JobsOk 3 2 js3 := by
  refine ⟨by decide, by decide, by decide, by decide, fun i x y hx hy => ?_, by unfold Within; decide⟩
  match i, hx, hy with
  | 0, hx, hy => cases hx; cases hy; decide
  | 1, hx, hy => cases hx; cases hy; decide
  | 2, hx, hy => simp [js3] at hy
  | i + 3, hx, hy => simp [js3] at hx
def b31 : List (List Int) := [[0, 9], [4, 9], [0, 9]]
def b32 : List (List Int) := [[0, 9], [4, 9], [3, 9]]
def b33 : List (List Int) := [[1, 1], [2, 2], [5, 9]]
def b34 : List (List Int) := [[1, 1], [3, 3], [0, 9]]
def b35 : List (List Int) := [[0, 6], [4, 9], [0, 9]]
abbrev w3 (b : List (List Int)) : List Win := js3.map (winOf b)
theorem e31 : (Tf (w3 b31) 3 (lowest (w3 b31)) (2 ^ 3 - 1)).map (·.1) = some 9 := by decide +kernel
theorem e32 : (Tf (w3 b32) 3 (lowest (w3 b32)) (2 ^ 3 - 1)).map (·.1) = some 10 := by decide +kernel
theorem e33 : (Tf (w3 b33) 3 (lowest (w3 b33)) (2 ^ 3 - 1)).map (·.1) = none := by decide +kernel
theorem n33 (e : Int × Nat) : Tf (w3 b33) 3 (lowest (w3 b33)) (2 ^ 3 - 1) ≠ some e := fun he => by
  have g := e33
  rw [he] at g; cases g
theorem e34 : (Tf (w3 b34) 3 (lowest (w3 b34)) (2 ^ 3 - 1)).map (·.1) = some 10 := by decide +kernel
theorem f34 : ∀ s ∈ seqs 3, goT (w3 b34) s (List.replicate 3 0) (lowest (w3 b34)) = none ∨ goT (w3 b34) s (List.replicate 3 0) (lowest (w3 b34)) = some ([1, 3, 6], 10) := by decide +kernel
theorem g31 : goT (w3 b31) [2, 1, 0] (List.replicate 3 0) 0 = some ([7, 4, 0], 9) := by decide +kernel
theorem g35 : goT (w3 b35) [2, 1, 0] (List.replicate 3 0) 0 = none := by decide +kernel
theorem bok {b : List (List Int)} (h : b.length = 3) (h2 : ∀ r ∈ b, r.length = 2) : BoxOk 3 b := ⟨h, h2⟩
theorem mk3 {H : Hp} {t1 t2 t3 t4 : Addr} {a b c d e f : Int} (n1 : H t1 = none) (n2 : upd H t1 (.tup [.int a, .int b]) t2 = none) (n3 : upd (upd H t1 (.tup [.int a, .int b])) t2 (.tup [.int c, .int d]) t3 = none) (n4 : upd (upd (upd H t1 (.tup [.int a, .int b])) t2 (.tup [.int c, .int d])) t3 (.tup [.int e, .int f]) t4 = none) :
    Same H (upd (upd (upd (upd H t1 (.tup [.int a, .int b])) t2 (.tup [.int c, .int d])) t3 (.tup [.int e, .int f])) t4 (.tup [.ref t1, .ref t2, .ref t3])) ∧ JV (upd (upd (upd (upd H t1 (.tup [.int a, .int b])) t2 (.tup [.int c, .int d])) t3 (.tup [.int e, .int f])) t4 (.tup [.ref t1, .ref t2, .ref t3])) (.ref t4) [[a, b], [c, d], [e, f]] := by
  have y1 := same_upd (o := .tup [.int a, .int b]) n1
  have y2 := same_upd (o := .tup [.int c, .int d]) n2
  have y3 := same_upd (o := .tup [.int e, .int f]) n3
  have y4 := same_upd (o := .tup [.ref t1, .ref t2, .ref t3]) n4
  exact ⟨((y1.trans y2).trans y3).trans y4, t4, _, rfl, upd_same, .cons ⟨t1, rfl, y4 _ _ (y3 _ _ (y2 _ _ upd_same))⟩ (.cons ⟨t2, rfl, y4 _ _ (y3 _ _ upd_same)⟩ (.cons ⟨t3, rfl, y4 _ _ upd_same⟩ .nil))⟩
theorem seq_kp {K : PySem.W.Frag} {a h q : Addr} {H H' : Hp} {xs : List V} (x : SqL K H a xs) (k : Kpt h q H H') (n1 : H h = none) (n2 : H q = none) : SqL K H' a xs := by
  rcases x with (e | ⟨o, e⟩) | e
  · exact .inl (.inl (k _ _ e (fun z => by rw [z, n1] at e; cases e) (fun z => by rw [z, n2] at e; cases e)))
  · exact .inl (.inr ⟨o, k _ _ e (fun z => by rw [z, n1] at e; cases e) (fun z => by rw [z, n2] at e; cases e)⟩)
  · exact .inr e
section
variable {P : Program} {w : World} {K : PySem.W.Frag} {mg : Str → Option Value} {base : Heap} {aW aT : Addr} {es : Array DictEntry} {nn : Nat}
abbrev s_law : Stmt := topS 54
abbrev n_law : List Str := ["script", "heap", "turn", "task", "k", "box", "unknowns"]
theorem sc_law : FnScope n_law ["script"] (defScope s_law) := ⟨rfl, rfl, rfl, by decide +kernel, rfl, by decide +kernel, by decide +kernel⟩
def spLaw (K : PySem.W.Frag) (T : List (Addr × Str)) : Sp := fun vs H Q _ => ∃ (a : Addr) (ns : List Int), vs = [.ref a] ∧ SqL K H a (ns.map V.int) ∧ ns.length ≤ 63 ∧ LamX.Tabs T H ∧ ∀ H', Q (.bl true) H'
structure LawC (P : Program) (w : World) (K : PySem.W.Frag) (mg : Str → Option Value) (base : Heap) (C CR : Addr) (T : List (Addr × Str)) : Prop where
  heap : Cal P w K mg base 1 "_law_heap" (spHeap K) []
  task : Cal P w K mg base 10 "_law_task" (spLTask C) []
  end_ : Cal P w K mg base 6 "_law_end_right" (spLEnd C) []
  seqs : CalG P w K mg base 4 "_law_sequences_right" (spLSr C)
  free : Cal P w K mg base 10 "_law_free_right" (spLFree C) []
  many : Cal P w K mg base 10 "_law_many_right" (spMany T) []
  mak : Mak P w K mg base 8 "Task" C (spTask C) []
  least : CalX P w K mg base 5 "least_bench_end" (spLeast C CR)
  starts : Cal P w K mg base 3 "starts_in_sequence" (spStarts C) []
theorem ok_law {f C CR : Addr} {T0 : List (Addr × Str)} {fd : FuncData} (F : Fun K "law" "law" s_law f fd) (T : Txt K mg w aW aT es nn) (cc : CC K C) (LC : LawC P w K mg base C CR T0) : FnG P w K mg base CX0 11 f fd ["script"] (spLaw K T0) := by
  obtain ⟨c_Lheap, c_Ltask, c_Lend_right, c_Lsequences_right, c_Lfree_right, c_Lmany_right, m_Task, x_least_bench_end, c_starts_in_sequence⟩ := LC
  refine fun_okG F sc_law (fun vs H Q E h => ?_) (fun cdv A outer s0 H vs Q E hgd hr h => ?_)
  · obtain ⟨a, ns, rfl, _⟩ := h
    rfl
  · obtain ⟨a, ns, rfl, hS, hlen, ht, fin⟩ := h
    refine ⟨_, (pss_cons (ps_set (i := 1) sc_law.nd rfl (.inl rfl) (pe_c c_Lheap hr (by decide) (by rfl) (pa_cons (pv 0) pa_nil)))
      (pss_cut (ps_for PassesOwn.never rfl (pi_range1 (by rfl) T.b_range (pa_cons (pe_op op_add (pe_op op_add pe_int (pe_callTy call_int1 (by rfl) T.b_int (by decide +kernel) (pa_cons (pe_cmpR op_gt (pe_callB call_len_seq (by rfl) T.b_len (by decide +kernel) (pa_cons (pv 0) pa_nil)) pe_int (nomark _)) pa_nil))) (pe_callTy call_int1 (by rfl) T.b_int (by decide +kernel) (pa_cons (pe_cmpR op_gt (pe_callB call_len_seq (by rfl) T.b_len (by decide +kernel) (pa_cons (pv 0) pa_nil)) pe_int (nomark _)) pa_nil))) pa_nil)) (pg_name (i := 2) sc_law.nd rfl (.inl rfl)) (pss_cons (ps_asg (pe_c c_Ltask hr (by decide) (by rfl) (pa_cons (pv 1) (pa_cons pe_str pa_nil))) (pg_tup rfl (pgs_cons (pg_name (i := 3) sc_law.nd rfl (.inl rfl)) (pgs_cons (pg_name (i := 4) sc_law.nd rfl (.inl rfl)) (pgs_cons (pg_name (i := 5) sc_law.nd rfl (.inl rfl)) pgs_nil)))))
        (pss_one (ps_if (PW.pt (pw_or (pt_not (pt_val (pe_c c_Lend_right hr (by decide) (by rfl) (pa_cons (pv 3) (pa_cons (pv 4) (pa_cons (pv 5) pa_nil)))))) (pw_or (pt_not (pt_val (pe_cG hgd c_Lsequences_right hr (by decide) (by rfl) (pa_cons (pv 1) (pa_cons (pv 3) (pa_cons (pv 4) (pa_cons (pv 5) pa_nil))))))) (pw_or1 (pt_not (pt_val (pe_c c_Lfree_right hr (by decide) (by rfl) (pa_cons (pv 1) (pa_cons (pv 3) (pa_cons (pv 4) (pa_cons (pv 5) pa_nil))))))))))) (pss_one (ps_ret pe_bl)) pss_nil))))
      (pss_cut (ps_if (PW.pt (pw_or (pt_not (pt_val (pe_c c_Lmany_right hr (by decide) (by rfl) (pa_cons pe_int pa_nil)))) (pw_or1 (PW.pt (pw_and (pt_cmpR op_gt (pe_callB call_len_seq (by rfl) T.b_len (by decide +kernel) (pa_cons (pv 0) pa_nil)) pe_int (nomark _)) (pw_and1 (pt_not (pt_val (pe_c c_Lmany_right hr (by decide) (by rfl) (pa_cons pe_int pa_nil)))))))))) (pss_one (ps_ret pe_bl)) pss_nil)
      (pss_cons (ps_set (i := 6) sc_law.nd rfl (.inl rfl) (pe_tup (pa_cons (pe_tup (pa_cons pe_str (pa_cons pe_int (pa_cons pe_int pa_nil)))) (pa_cons (pe_tup (pa_cons pe_str (pa_cons pe_int (pa_cons pe_int pa_nil)))) (pa_cons (pe_tup (pa_cons pe_str (pa_cons pe_int (pa_cons pe_int pa_nil)))) pa_nil)))))
      (pss_cons (ps_set (i := 3) sc_law.nd rfl (.inl rfl) (pe_mk m_Task hr (by decide) (by rfl) (pa_cons (pv 6) (pa_cons (pe_tup (pa_cons (pe_tup (pa_cons pe_str (pa_cons (pe_tup (pa_cons (pe_tup (pa_cons pe_int (pa_cons pe_int pa_nil))) (pa_cons (pe_tup (pa_cons pe_int (pa_cons pe_int pa_nil))) (pa_cons (pe_tup (pa_cons pe_int (pa_cons pe_int pa_nil))) pa_nil)))) pa_nil))) pa_nil)) (pa_cons (pe_tup (pa_cons pe_int (pa_cons pe_int (pa_cons pe_int pa_nil)))) pa_nil)))))
      (pss_cons (ps_if (PW.pt (pw_or (pt_cmpR op_ne (pe_ix (r := rIxT K) ix_tup (pe_x x_least_bench_end hr (by decide) (by rfl) (pa_cons (pv 3) (pa_cons pe_int (pa_cons (pe_tup (pa_cons (pe_tup (pa_cons pe_int (pa_cons pe_int pa_nil))) (pa_cons (pe_tup (pa_cons pe_int (pa_cons pe_int pa_nil))) (pa_cons (pe_tup (pa_cons pe_int (pa_cons pe_int pa_nil))) pa_nil)))) pa_nil)))) pe_int (fun _ _ => rfl)) pe_int (nomark _)) (pw_or1 (pt_cmpR op_ne (pe_ix (r := rIxT K) ix_tup (pe_x x_least_bench_end hr (by decide) (by rfl) (pa_cons (pv 3) (pa_cons pe_int (pa_cons (pe_tup (pa_cons (pe_tup (pa_cons pe_int (pa_cons pe_int pa_nil))) (pa_cons (pe_tup (pa_cons pe_int (pa_cons pe_int pa_nil))) (pa_cons (pe_tup (pa_cons pe_int (pa_cons pe_int pa_nil))) pa_nil)))) pa_nil)))) pe_int (fun _ _ => rfl)) pe_int (nomark _))))) (pss_one (ps_ret pe_bl)) pss_nil)
      (pss_cons (ps_if (PW.pt (pw_or (pt_cmpR op_notN (pe_x x_least_bench_end hr (by decide) (by rfl) (pa_cons (pv 3) (pa_cons pe_int (pa_cons (pe_tup (pa_cons (pe_tup (pa_cons pe_int (pa_cons pe_int pa_nil))) (pa_cons (pe_tup (pa_cons pe_int (pa_cons pe_int pa_nil))) (pa_cons (pe_tup (pa_cons pe_int (pa_cons pe_int pa_nil))) pa_nil)))) pa_nil)))) pe_non (nomark _)) (pw_or1 (pt_cmpR (op_neD hr.units) (pe_x x_least_bench_end hr (by decide) (by rfl) (pa_cons (pv 3) (pa_cons pe_int (pa_cons (pe_tup (pa_cons (pe_tup (pa_cons pe_int (pa_cons pe_int pa_nil))) (pa_cons (pe_tup (pa_cons pe_int (pa_cons pe_int pa_nil))) (pa_cons (pe_tup (pa_cons pe_int (pa_cons pe_int pa_nil))) pa_nil)))) pa_nil)))) (pe_tup (pa_cons pe_int (pa_cons (pe_tup (pa_cons pe_int (pa_cons pe_int (pa_cons pe_int pa_nil)))) pa_nil))) (nomark _))))) (pss_one (ps_ret pe_bl)) pss_nil)
      (pss_cons (ps_if (pt_cmpR (op_neD hr.units) (pe_c c_starts_in_sequence hr (by decide) (by rfl) (pa_cons (pv 3) (pa_cons pe_int (pa_cons (pe_tup (pa_cons (pe_tup (pa_cons pe_int (pa_cons pe_int pa_nil))) (pa_cons (pe_tup (pa_cons pe_int (pa_cons pe_int pa_nil))) (pa_cons (pe_tup (pa_cons pe_int (pa_cons pe_int pa_nil))) pa_nil)))) (pa_cons (pe_tup (pa_cons pe_int (pa_cons pe_int (pa_cons pe_int pa_nil)))) pa_nil))))) (pe_tup (pa_cons pe_int (pa_cons pe_int (pa_cons pe_int pa_nil)))) (nomark _)) (pss_one (ps_ret pe_bl)) pss_nil)
      (pss_one (ps_ret (pe_cmpR op_isN (pe_c c_starts_in_sequence hr (by decide) (by rfl) (pa_cons (pv 3) (pa_cons pe_int (pa_cons (pe_tup (pa_cons (pe_tup (pa_cons pe_int (pa_cons pe_int pa_nil))) (pa_cons (pe_tup (pa_cons pe_int (pa_cons pe_int pa_nil))) (pa_cons (pe_tup (pa_cons pe_int (pa_cons pe_int pa_nil))) pa_nil)))) (pa_cons (pe_tup (pa_cons pe_int (pa_cons pe_int (pa_cons pe_int pa_nil)))) pa_nil))))) pe_non (nomark _)))))))))))), ?_⟩
    have h0 : H = H := rfl
    refine ⟨_, rfl, a, ns, rfl, hS, hlen, fun H1 h q s1 nh nq a1 => ?_⟩
    have ht1 : LamX.Tabs T0 H1 := fun p hp => (ht p hp).ext s1
    have kp1 : Kpt h q H H1 := .of_same s1
    have hS1 := seq_kp hS kp1 nh nq
    refine ⟨fun σ H' => ∃ y2 y3 y4 y5, σ = [some (.ref a), some (.ref h), y2, y3, y4, y5, none] ∧ Kpt h q H1 H' ∧ HpAt H' h q, ?_, fun σ H2 hM => ?_⟩
    · refine ⟨_, rfl, a, _, rfl, .inl hS1, _, _, rfl, rfl, .inr ⟨_, rfl, _, _, rfl, rfl, _, rfl, a, _, rfl, .inl hS1, _, _, rfl, rfl, .inr ⟨_, rfl, _, _, rfl, rfl, _, rfl, ?_, ?_, for_range (lo := 0) (fun i σ H' => ∃ y2 y3 y4 y5, σ = [some (.ref a), some (.ref h), y2, y3, y4, y5, none] ∧ Kpt h q H1 H' ∧ HpAt H' h q)
        ⟨none, none, none, none, rfl, .refl _ _ _, a1⟩ (fun i σ H2 _ hI => ?_) (fun σ H2 hI => hI)⟩⟩⟩
      · split <;> split <;> omega
      · split <;> split <;> omega
      · obtain ⟨y2, y3, y4, y5, rfl, kp2, a2⟩ := hI
        refine ⟨_, rfl, h, q, rfl, a2, fun p tv bv k ul wl goal js box H3 hp md a3 kp3 => ?_⟩
        refine ⟨p, _, rfl, sq_tup hp, rfl, _, _, rfl, _, _, rfl, _, _, rfl, rfl, ?_⟩
        refine ⟨_, rfl, _, rfl, _, rfl, tv, bv, k, ul, wl, goal, js, box, rfl, md, fun H4 s4 => ⟨true, rfl, iteF ?_⟩⟩
        have kp4 := kp3.trans (.of_same s4)
        have md4 := md.kp (.of_same s4) a3
        have a4 := a3.same s4
        refine ⟨_, rfl, _, rfl, _, rfl, _, rfl, h, q, tv, bv, k, ul, wl, goal, js, box, rfl, a4, md4, fun H5 a5 kp5 => ⟨true, rfl, iteF ?_⟩⟩
        have md5 := md4.kp kp5 a4
        refine ⟨_, rfl, _, rfl, _, rfl, _, rfl, h, q, tv, bv, k, ul, wl, goal, js, box, rfl, a5, md5, fun H6 a6 kp6 => ⟨true, rfl, iteF ?_⟩⟩
        exact ⟨_, _, _, _, rfl, ((kp2.trans kp4).trans kp5).trans kp6, a6⟩
    obtain ⟨y2, y3, y4, y5, rfl, kp2, a2⟩ := hM
    have ht2 : LamX.Tabs T0 H2 := tabs_kp ht1 a1 kp2
    have hS2 := seq_kp hS (kp1.trans kp2) nh nq
    refine ⟨fun σ H' => σ = [some (.ref a), some (.ref h), y2, y3, y4, y5, none], ?_, fun σ H3 hM => ?_⟩
    · refine ⟨11, rfl, .inr rfl, ht2, fun H3 x3 ht3 => ⟨true, rfl, iteF ?_⟩⟩
      have hS3 := seq_ext x3 hS2
      exact ⟨_, rfl, a, _, rfl, .inl hS3, _, _, rfl, rfl, _, rfl, ite2 (fun _ => ⟨10, rfl, .inl rfl, ht3, fun H4 x4 ht4 => ⟨true, rfl, iteF rfl⟩⟩) (fun _ => iteF rfl)⟩
    subst hM
    -- the names
    refine ⟨len3, fun t1 n1 => ⟨len3, fun t2 n2 => ⟨len3, fun t3 n3 => ⟨len3, fun pu npu => ?_⟩⟩⟩⟩
    have k1 := same_upd (o := .tup [.str "a", .int 0, .int 9]) n1
    have e1 : upd H3 t1 (.tup [.str "a", .int 0, .int 9]) t1 = some (.tup [.str "a", .int 0, .int 9]) := upd_same
    generalize upd H3 t1 (.tup [.str "a", .int 0, .int 9]) = H4 at *
    have k2 := same_upd (o := .tup [.str "b", .int 0, .int 9]) n2
    have e2 : upd H4 t2 (.tup [.str "b", .int 0, .int 9]) t2 = some (.tup [.str "b", .int 0, .int 9]) := upd_same
    generalize upd H4 t2 (.tup [.str "b", .int 0, .int 9]) = H5 at *
    have k3 := same_upd (o := .tup [.str "c", .int 0, .int 9]) n3
    have e3 : upd H5 t3 (.tup [.str "c", .int 0, .int 9]) t3 = some (.tup [.str "c", .int 0, .int 9]) := upd_same
    generalize upd H5 t3 (.tup [.str "c", .int 0, .int 9]) = H6 at *
    have k4 := same_upd (o := .tup [.ref t1, .ref t2, .ref t3]) npu
    have e4 : upd H6 pu (.tup [.ref t1, .ref t2, .ref t3]) pu = some (.tup [.ref t1, .ref t2, .ref t3]) := upd_same
    have uv : UVs (upd H6 pu (.tup [.ref t1, .ref t2, .ref t3])) [.ref t1, .ref t2, .ref t3] ul3 := .cons ⟨t1, rfl, k4 _ _ (k3 _ _ (k2 _ _ e1))⟩ (.cons ⟨t2, rfl, k4 _ _ (k3 _ _ e2)⟩ (.cons ⟨t3, rfl, k4 _ _ e3⟩ .nil))
    generalize upd H6 pu (.tup [.ref t1, .ref t2, .ref t3]) = H7 at *
    -- the task
    refine ⟨_, rfl, len2, fun r1 m1 => ⟨len2, fun r2 m2 => ⟨len2, fun r3 m3 => ⟨len3, fun r4 m4 => ?_⟩⟩⟩⟩
    obtain ⟨s8, jv⟩ := mk3 (a := 0) (b := 2) (c := 1) (d := 3) (e := 2) (f := 4) m1 m2 m3 m4
    generalize upd (upd (upd (upd H7 r1 (.tup [.int 0, .int 2])) r2 (.tup [.int 1, .int 3])) r3 (.tup [.int 2, .int 4])) r4 (.tup [.ref r1, .ref r2, .ref r3]) = H8 at *
    refine ⟨len2, fun pw npw => ⟨len1, fun pws npws => ⟨len3, fun pg npg => fun x dx nx ndx nxd => ?_⟩⟩⟩
    have y2' := same_upd (o := .tup [.str "bench", .ref r4]) npw
    have w2 : WV (upd H8 pw (.tup [.str "bench", .ref r4])) (.ref pw) (.bench js3) := ⟨pw, _, rfl, upd_same, jv.same y2'⟩
    generalize upd H8 pw (.tup [.str "bench", .ref r4]) = H9 at *
    have y3' := same_upd (o := .tup [.ref pw]) npws
    have z3 : upd H9 pws (.tup [.ref pw]) pws = some (.tup [.ref pw]) := upd_same
    generalize upd H9 pws (.tup [.ref pw]) = HA at *
    have y5' := same_upd (o := .tup [.int 0, .int 0, .int 0]) npg
    have z5 : upd HA pg (.tup [.int 0, .int 0, .int 0]) pg = some (tI [0, 0, 0]) := upd_same
    generalize upd HA pg (.tup [.int 0, .int 0, .int 0]) = HB at *
    have y6 := same_upd (o := .own x) ndx
    have nx6 : upd HB dx (.own x) x = none := by rw [upd_ne nxd.symm]; exact nx
    have y7 := y6.trans (same_upd (o := .ins C dx []) nx6)
    have z7 : upd (upd HB dx (.own x)) x (.ins C dx []) x = some (.ins C dx []) := upd_same
    generalize upd (upd HB dx (.own x)) x (.ins C dx []) = HC at *
    have s7B := (s8.trans y2').trans (y3'.trans y5')
    have s9B := y3'.trans y5'
    have wok : ∀ z ∈ [Wish.bench js3], WishOk ul3.length z := fun z hz => by
      rw [List.mem_singleton.mp hz]; exact js3_ok
    refine ⟨x, dx, pu, pws, pg, _, [.ref pw], ul3, [.bench js3], [0, 0, 0], rfl, z7, (s7B.trans y7) _ _ e4, uv.same (s7B.trans y7), (y5'.trans y7) _ _ z3, .cons (w2.same (s9B.trans y7)) .nil, y7 _ _ z5, ul3_ok, wok, rfl, fun HD sD => ⟨rfl, ?_⟩⟩
    have tBE : Same HB (upd HD x (.ins C dx [("unknowns", .ref pu), ("wishes", .ref pws), ("goal", .ref pg)])) := same_at (y7.trans sD) nx
    have ex : upd HD x (.ins C dx [("unknowns", .ref pu), ("wishes", .ref pws), ("goal", .ref pg)]) x = some (.ins C dx [("unknowns", .ref pu), ("wishes", .ref pws), ("goal", .ref pg)]) := upd_same
    generalize upd HD x (.ins C dx [("unknowns", .ref pu), ("wishes", .ref pws), ("goal", .ref pg)]) = HE at *
    have tv : TaskV C HE (.ref x) ul3 [.bench js3] [0, 0, 0] := ⟨x, dx, pu, pws, pg, _, [.ref pw], rfl, ex, (s7B.trans tBE) _ _ e4, uv.same (s7B.trans tBE), (y5'.trans tBE) _ _ z3, .cons (w2.same (s9B.trans tBE)) .nil, tBE _ _ z5⟩
    refine ⟨_, rfl, len2, fun tA1 nA1 => ⟨len2, fun tA2 nA2 => ⟨len2, fun tA3 nA3 => ⟨len3, fun tA4 nA4 => ?_⟩⟩⟩⟩
    obtain ⟨sA, jA⟩ := mk3 (a := 0) (b := 9) (c := 4) (d := 9) (e := 0) (f := 9) nA1 nA2 nA3 nA4
    generalize upd (upd (upd (upd HE tA1 (.tup [.int 0, .int 9])) tA2 (.tup [.int 4, .int 9])) tA3 (.tup [.int 0, .int 9])) tA4 (.tup [.ref tA1, .ref tA2, .ref tA3]) = GA at *
    have vA := tv.same sA
    refine ⟨.ref x, .ref tA4, 0, ul3, [.bench js3], [0, 0, 0], js3, b31, rfl, vA, rfl, js3_ok, jA, bok rfl (by decide), fun z => absurd z (by decide), fun _ hn => ?_, fun _ e s f p u I1 he pm hg sI1 hp lf => ?_⟩
    · have hn : Tf (w3 b31) 3 (lowest (w3 b31)) (2 ^ 3 - 1) = none := hn
      have g := e31
      rw [hn] at g; cases g
    obtain ⟨e, z⟩ := e
    have he : Tf (w3 b31) 3 (lowest (w3 b31)) (2 ^ 3 - 1) = some (e, z) := he
    have g := e31
    rw [he] at g
    cases g
    refine ⟨p, _, 0, _, rfl, rfl, sq_tup hp, rfl, rfl, _, rfl, ite2 (fun z => absurd z (by simp)) (fun _ => ?_)⟩
    have vA := vA.same sI1
    clear hg hp lf pm
    refine ⟨_, rfl, len2, fun tB1 nB1 => ⟨len2, fun tB2 nB2 => ⟨len2, fun tB3 nB3 => ⟨len3, fun tB4 nB4 => ?_⟩⟩⟩⟩
    obtain ⟨sB, jB⟩ := mk3 (a := 0) (b := 9) (c := 4) (d := 9) (e := 3) (f := 9) nB1 nB2 nB3 nB4
    generalize upd (upd (upd (upd I1 tB1 (.tup [.int 0, .int 9])) tB2 (.tup [.int 4, .int 9])) tB3 (.tup [.int 3, .int 9])) tB4 (.tup [.ref tB1, .ref tB2, .ref tB3]) = GB at *
    have vB := vA.same sB
    refine ⟨.ref x, .ref tB4, 0, ul3, [.bench js3], [0, 0, 0], js3, b32, rfl, vB, rfl, js3_ok, jB, bok rfl (by decide), fun z => absurd z (by decide), fun _ hn => ?_, fun _ e s f p u I2 he pm hg sI2 hp lf => ?_⟩
    · have hn : Tf (w3 b32) 3 (lowest (w3 b32)) (2 ^ 3 - 1) = none := hn
      have g := e32
      rw [hn] at g; cases g
    obtain ⟨e, z⟩ := e
    have he : Tf (w3 b32) 3 (lowest (w3 b32)) (2 ^ 3 - 1) = some (e, z) := he
    have g := e32
    rw [he] at g
    cases g
    refine ⟨p, _, 0, _, rfl, rfl, sq_tup hp, rfl, rfl, _, rfl, ite2 (fun z => absurd z (by simp)) (fun _ => ?_)⟩
    have vB := vB.same sI2
    clear hg hp lf pm
    refine ⟨_, rfl, len2, fun tC1 nC1 => ⟨len2, fun tC2 nC2 => ⟨len2, fun tC3 nC3 => ⟨len3, fun tC4 nC4 => ?_⟩⟩⟩⟩
    obtain ⟨sC, jC⟩ := mk3 (a := 1) (b := 1) (c := 2) (d := 2) (e := 5) (f := 9) nC1 nC2 nC3 nC4
    generalize upd (upd (upd (upd I2 tC1 (.tup [.int 1, .int 1])) tC2 (.tup [.int 2, .int 2])) tC3 (.tup [.int 5, .int 9])) tC4 (.tup [.ref tC1, .ref tC2, .ref tC3]) = GC at *
    have vC := vB.same sC
    refine ⟨.ref x, .ref tC4, 0, ul3, [.bench js3], [0, 0, 0], js3, b33, rfl, vC, rfl, js3_ok, jC, bok rfl (by decide), fun z => absurd z (by decide), fun _ _ I3 sI3 => ?_, fun _ e s f p u I3 he _ _ _ _ _ => absurd he (n33 e)⟩
    refine ⟨rfl, _, rfl, ite2 (fun z => absurd z (by simp)) (fun _ => ?_)⟩
    have vC := vC.same sI3
    refine ⟨_, rfl, len2, fun tD1 nD1 => ⟨len2, fun tD2 nD2 => ⟨len2, fun tD3 nD3 => ⟨len3, fun tD4 nD4 => ?_⟩⟩⟩⟩
    obtain ⟨sD, jD⟩ := mk3 (a := 1) (b := 1) (c := 3) (d := 3) (e := 0) (f := 9) nD1 nD2 nD3 nD4
    generalize upd (upd (upd (upd I3 tD1 (.tup [.int 1, .int 1])) tD2 (.tup [.int 3, .int 3])) tD3 (.tup [.int 0, .int 9])) tD4 (.tup [.ref tD1, .ref tD2, .ref tD3]) = GD at *
    have vD := vC.same sD
    refine ⟨.ref x, .ref tD4, 0, ul3, [.bench js3], [0, 0, 0], js3, b34, rfl, vD, rfl, js3_ok, jD, bok rfl (by decide), fun z => absurd z (by decide), fun _ hn => ?_, fun _ e s f p u I4 he pm hg sI4 hp lf => ?_⟩
    · have hn : Tf (w3 b34) 3 (lowest (w3 b34)) (2 ^ 3 - 1) = none := hn
      have g := e34
      rw [hn] at g; cases g
    obtain ⟨e, z⟩ := e
    have hg : goT (w3 b34) s (List.replicate 3 0) (lowest (w3 b34)) = some (f, e) := hg
    rcases f34 s (perm_seqs pm) with k | k
    · rw [k] at hg; cases hg
    rw [k] at hg
    cases hg
    obtain ⟨pf, rfl, hf⟩ := lf
    have vD := vD.same sI4
    refine ⟨len3, fun c1 m1 => ⟨len2, fun c2 m2 => ?_⟩⟩
    have q1 := same_upd (o := .tup [.int 1, .int 3, .int 6]) m1
    have q2 := same_upd (o := .tup [.int 10, .ref c1]) m2
    have w1 : upd (upd I4 c1 (.tup [.int 1, .int 3, .int 6])) c2 (.tup [.int 10, .ref c1]) c1 = some (tI [1, 3, 6]) := q2 _ _ upd_same
    have w2 : upd (upd I4 c1 (.tup [.int 1, .int 3, .int 6])) c2 (.tup [.int 10, .ref c1]) c2 = some (.tup [.int 10, .ref c1]) := upd_same
    have q12 := q1.trans q2
    generalize upd (upd I4 c1 (.tup [.int 1, .int 3, .int 6])) c2 (.tup [.int 10, .ref c1]) = I5 at *
    have sh : SeqAt.shaped (.tuple [.int 10, dI [1, 3, 6]]) = true := by
      unfold SeqAt.shaped dI
      simp [PyData.canLay0, PyData.canLayAll0, PyData.depth, PyData.depthAll]
    refine ⟨_, _, .tup (sq_tup (q12 _ _ hp)) (.cons (.int _) (.cons (dpI (q12 _ _ hf)) .nil)), .tup (sq_tup w2) (.cons (.int _) (.cons (dpI w1) .nil)), sh, sh, ?_⟩
    rw [SeqAt.eqv_refl _ (SeqAt.canLay_of_shaped sh)]
    refine ⟨_, rfl, iteF ?_⟩
    have vD := vD.same q12
    refine ⟨_, rfl, len2, fun tE1 nE1 => ⟨len2, fun tE2 nE2 => ⟨len2, fun tE3 nE3 => ⟨len3, fun tE4 nE4 => ?_⟩⟩⟩⟩
    obtain ⟨sE, jE⟩ := mk3 (a := 0) (b := 9) (c := 4) (d := 9) (e := 0) (f := 9) nE1 nE2 nE3 nE4
    generalize upd (upd (upd (upd I5 tE1 (.tup [.int 0, .int 9])) tE2 (.tup [.int 4, .int 9])) tE3 (.tup [.int 0, .int 9])) tE4 (.tup [.ref tE1, .ref tE2, .ref tE3]) = GE at *
    have vE := vD.same sE
    refine ⟨len3, fun ps nps => ?_⟩
    have q3 := same_upd (o := .tup [.int 2, .int 1, .int 0]) nps
    have hps : upd GE ps (.tup [.int 2, .int 1, .int 0]) ps = some (.tup (nats [2, 1, 0])) := upd_same
    generalize upd GE ps (.tup [.int 2, .int 1, .int 0]) = I6 at *
    have vE := vE.same q3
    refine ⟨.ref x, .ref tE4, 0, ul3, [.bench js3], [0, 0, 0], js3, b31, ps, [2, 1, 0], 0, rfl, vE, rfl, js3_ok, jE.same q3, bok rfl (by decide), hps, by decide, by decide +kernel, fun e => ?_, fun f t' u I7 e sI7 lf => ?_⟩
    · have e : goT (w3 b31) [2, 1, 0] (List.replicate 3 0) 0 = none := e
      rw [g31] at e; cases e
    have e : goT (w3 b31) [2, 1, 0] (List.replicate 3 0) 0 = some (f, t') := e
    rw [g31] at e
    cases e
    obtain ⟨pf2, rfl, hf2⟩ := lf
    refine ⟨len3, fun c3 m3 => ?_⟩
    have q4 := same_upd (o := .tup [.int 7, .int 4, .int 0]) m3
    have w3' : upd I7 c3 (.tup [.int 7, .int 4, .int 0]) c3 = some (tI [7, 4, 0]) := upd_same
    generalize upd I7 c3 (.tup [.int 7, .int 4, .int 0]) = I8 at *
    refine ⟨_, _, dpI (q4 _ _ hf2), dpI w3', shpI _, shpI _, ?_⟩
    rw [SeqAt.eqv_refl _ (SeqAt.canLay_of_shaped (shpI _))]
    refine ⟨_, rfl, iteF ?_⟩
    have vE := (vE.same sI7).same q4
    refine ⟨_, rfl, len2, fun tF1 nF1 => ⟨len2, fun tF2 nF2 => ⟨len2, fun tF3 nF3 => ⟨len3, fun tF4 nF4 => ?_⟩⟩⟩⟩
    obtain ⟨sF, jF⟩ := mk3 (a := 0) (b := 6) (c := 4) (d := 9) (e := 0) (f := 9) nF1 nF2 nF3 nF4
    generalize upd (upd (upd (upd I8 tF1 (.tup [.int 0, .int 6])) tF2 (.tup [.int 4, .int 9])) tF3 (.tup [.int 0, .int 9])) tF4 (.tup [.ref tF1, .ref tF2, .ref tF3]) = GF at *
    have vF := vE.same sF
    refine ⟨len3, fun ps2 nps2 => ?_⟩
    have q5 := same_upd (o := .tup [.int 2, .int 1, .int 0]) nps2
    have hps2 : upd GF ps2 (.tup [.int 2, .int 1, .int 0]) ps2 = some (.tup (nats [2, 1, 0])) := upd_same
    generalize upd GF ps2 (.tup [.int 2, .int 1, .int 0]) = I9 at *
    refine ⟨.ref x, .ref tF4, 0, ul3, [.bench js3], [0, 0, 0], js3, b35, ps2, [2, 1, 0], 0, rfl, vF.same q5, rfl, js3_ok, jF.same q5, bok rfl (by decide), hps2, by decide, by decide +kernel, fun _ IA sIA => ?_, fun f t' u IA e _ _ => ?_⟩
    · exact ⟨rfl, fin _⟩
    · have e : goT (w3 b35) [2, 1, 0] (List.replicate 3 0) 0 = some (f, t') := e
      rw [g35] at e; cases e
end
end M63

namespace M63
open PySem PySem.Spec PyProof.Rows L2 SX Own Gd
open C8 (Cal pe_c pe_gc pe_mk Mak pss_cut)
abbrev s_iR : Stmt := inS 4 0
theorem sc_iR : FnScope ["self", "word"] ["self", "word"] (defScope s_iR) := ⟨rfl, rfl, rfl, by decide +kernel, rfl, by decide +kernel, by decide +kernel⟩
theorem ok_iR {P : Program} {w : World} {K : PySem.W.Frag} {mg : Str → Option Value} {base : Heap} {f : Addr} {fd : FuncData} (F : Fun K "__init__" "Refused.__init__" s_iR f fd) : FnOk P w K mg base CX0 1 f fd ["self", "word"] (spInit K) := by
  refine F.ok sc_iR (fun vs H Q E h => ?_) (fun cdv A outer s H vs Q E hr h => ?_)
  · obtain ⟨a, C, y, rfl, _⟩ := h
    rfl
  · obtain ⟨a, C, y, rfl, T, no, e, q⟩ := h
    refine ⟨_, pss_one (ps_ost (pv 0) (pv 1)), ?_⟩
    exact ⟨_, rfl, _, rfl, a, C, rfl, T, no, .inl ⟨e, fun d n ne => q d n ne⟩⟩
end M63

namespace M63
open PySem PySem.W PySem.Calls PyProof.Rows Own Gd
open L2 (FnScope defArgs defBody defScope FunD Fun Binds OexC XfC xfB xfB_ok FnOk CX0 Sp Cls NoAttr Mk)
abbrev RR : OpenRow := OpenLaw.row PySem.Challenge.rw_paperbest_k63_whole_least_ends_of_benche
def loose0 : List PySem.Str := ["__name__", "TaskError", "InvalidTask", "InvalidNumber", "Refused", "MOST_JOBS", "jobs_of", "job_windows", "starts_in_sequence", "least_bench_end", "_end_and_starts", "LETTERS"]
def loose1 : List PySem.Str := ["is_whole", "MOST_SUMS", "is_wish", "is_lot_of_places", "is_places", "is_integers", "_is_sum", "_is_unlike", "_is_table", "_is_either", "_is_bench", "_is_room"]
def loose2 : List PySem.Str := ["_is_jobs", "WISH_TESTS", "WORDS", "LONGEST_NAME", "Task", "is_name", "is_pair", "_is_unknown", "_check_unknowns", "_check_wishes", "_check_goal", "_law_heap"]
def loose3 : List PySem.Str := ["_law_draw", "_law_pick", "_law_task", "_law_windows", "_law_sequences", "_law_starts", "_law_last", "_law_are_kept", "_law_end_right", "_law_sequences_right", "_law_free_right", "_law_heard"]
def loose4 : List PySem.Str := ["_law_many_right"]
def loose : List PySem.Str := loose0 ++ loose1 ++ loose2 ++ loose3 ++ loose4
def d_is_whole : He.DefD := ⟨("is_whole", none), "is_whole", "is_whole", defArgs s_is_whole, defBody s_is_whole, defScope s_is_whole, [], []⟩
def d_is_places : He.DefD := ⟨("is_places", none), "is_places", "is_places", defArgs s_is_places, defBody s_is_places, defScope s_is_places, [], []⟩
def d_is_integers : He.DefD := ⟨("is_integers", none), "is_integers", "is_integers", defArgs s_is_integers, defBody s_is_integers, defScope s_is_integers, [], []⟩
def d_is_lot_of_places : He.DefD := ⟨("is_lot_of_places", none), "is_lot_of_places", "is_lot_of_places", defArgs s_is_lot_of_places, defBody s_is_lot_of_places, defScope s_is_lot_of_places, [], []⟩
def d_is_unlike : He.DefD := ⟨("_is_unlike", none), "_is_unlike", "_is_unlike", defArgs s_is_unlike, defBody s_is_unlike, defScope s_is_unlike, [], []⟩
def d_is_jobs : He.DefD := ⟨("_is_jobs", none), "_is_jobs", "_is_jobs", defArgs s_is_jobs, defBody s_is_jobs, defScope s_is_jobs, [], []⟩
def d_is_bench : He.DefD := ⟨("_is_bench", none), "_is_bench", "_is_bench", defArgs s_is_bench, defBody s_is_bench, defScope s_is_bench, [], []⟩
def d_is_wish : He.DefD := ⟨("is_wish", none), "is_wish", "is_wish", defArgs s_is_wish, defBody s_is_wish, defScope s_is_wish, [], []⟩
def d_is_name : He.DefD := ⟨("is_name", none), "is_name", "is_name", defArgs s_is_name, defBody s_is_name, defScope s_is_name, [], []⟩
def d_is_pair : He.DefD := ⟨("is_pair", none), "is_pair", "is_pair", defArgs s_is_pair, defBody s_is_pair, defScope s_is_pair, [], []⟩
def d_is_unknown : He.DefD := ⟨("_is_unknown", none), "_is_unknown", "_is_unknown", defArgs s_is_unknown, defBody s_is_unknown, defScope s_is_unknown, [], []⟩
def d_check_unknowns : He.DefD := ⟨("_check_unknowns", none), "_check_unknowns", "_check_unknowns", defArgs s_check_unknowns, defBody s_check_unknowns, defScope s_check_unknowns, [], []⟩
def d_check_wishes : He.DefD := ⟨("_check_wishes", none), "_check_wishes", "_check_wishes", defArgs s_check_wishes, defBody s_check_wishes, defScope s_check_wishes, [], []⟩
def d_check_goal : He.DefD := ⟨("_check_goal", none), "_check_goal", "_check_goal", defArgs s_check_goal, defBody s_check_goal, defScope s_check_goal, [], []⟩
def d_jobs_of : He.DefD := ⟨("jobs_of", none), "jobs_of", "jobs_of", defArgs s_jobs_of, defBody s_jobs_of, defScope s_jobs_of, [], []⟩
def d_job_windows : He.DefD := ⟨("job_windows", none), "job_windows", "job_windows", defArgs s_job_windows, defBody s_job_windows, defScope s_job_windows, [], []⟩
def d_starts_in_sequence : He.DefD := ⟨("starts_in_sequence", none), "starts_in_sequence", "starts_in_sequence", defArgs s_starts_in_sequence, defBody s_starts_in_sequence, defScope s_starts_in_sequence, [], []⟩
def d_Lwindows : He.DefD := ⟨("_law_windows", none), "_law_windows", "_law_windows", defArgs s_Lwindows, defBody s_Lwindows, defScope s_Lwindows, [], []⟩
def d_Lstarts : He.DefD := ⟨("_law_starts", none), "_law_starts", "_law_starts", defArgs s_Lstarts, defBody s_Lstarts, defScope s_Lstarts, [], []⟩
def d_Llast : He.DefD := ⟨("_law_last", none), "_law_last", "_law_last", defArgs s_Llast, defBody s_Llast, defScope s_Llast, [], []⟩
def d_Lare_kept : He.DefD := ⟨("_law_are_kept", none), "_law_are_kept", "_law_are_kept", defArgs s_Lare_kept, defBody s_Lare_kept, defScope s_Lare_kept, [], []⟩
def d_Lsequences : He.DefD := ⟨("_law_sequences", none), "_law_sequences", "_law_sequences", defArgs s_Lsequences, defBody s_Lsequences, defScope s_Lsequences, [], []⟩
def d_end_and_starts : He.DefD := ⟨("_end_and_starts", none), "_end_and_starts", "_end_and_starts", defArgs s_end_and_starts, defBody s_end_and_starts, defScope s_end_and_starts, [], []⟩
def d_least_bench_end : He.DefD := ⟨("least_bench_end", none), "least_bench_end", "least_bench_end", defArgs s_least_bench_end, defBody s_least_bench_end, defScope s_least_bench_end, [], []⟩
def d_Ldraw : He.DefD := ⟨("_law_draw", none), "_law_draw", "_law_draw", defArgs s_Ldraw, defBody s_Ldraw, defScope s_Ldraw, [], []⟩
def d_Lheap : He.DefD := ⟨("_law_heap", none), "_law_heap", "_law_heap", defArgs s_Lheap, defBody s_Lheap, defScope s_Lheap, [], []⟩
def d_Lpick : He.DefD := ⟨("_law_pick", none), "_law_pick", "_law_pick", defArgs s_Lpick, defBody s_Lpick, defScope s_Lpick, [], []⟩
def d_Ltask : He.DefD := ⟨("_law_task", none), "_law_task", "_law_task", defArgs s_Ltask, defBody s_Ltask, defScope s_Ltask, [], []⟩
def d_Lend_right : He.DefD := ⟨("_law_end_right", none), "_law_end_right", "_law_end_right", defArgs s_Lend_right, defBody s_Lend_right, defScope s_Lend_right, [], []⟩
def d_Lsequences_right : He.DefD := ⟨("_law_sequences_right", none), "_law_sequences_right", "_law_sequences_right", defArgs s_Lsequences_right, defBody s_Lsequences_right, defScope s_Lsequences_right, [], []⟩
def d_Lfree_right : He.DefD := ⟨("_law_free_right", none), "_law_free_right", "_law_free_right", defArgs s_Lfree_right, defBody s_Lfree_right, defScope s_Lfree_right, [], []⟩
def d_Lmany_right : He.DefD := ⟨("_law_many_right", none), "_law_many_right", "_law_many_right", defArgs s_Lmany_right, defBody s_Lmany_right, defScope s_Lmany_right, [], []⟩
def d_Lheard : He.DefD := ⟨("_law_heard", none), "_law_heard", "_law_heard", defArgs s_Lheard, defBody s_Lheard, defScope s_Lheard, [], []⟩
def d_law : He.DefD := ⟨("law", none), "law", "law", defArgs s_law, defBody s_law, defScope s_law, [], []⟩
def d_iR : He.DefD := ⟨("Refused", some "__init__"), "__init__", "Refused.__init__", defArgs s_iR, defBody s_iR, defScope s_iR, [], []⟩
def d_Ti : He.DefD := ⟨("Task", some "__init__"), "__init__", "Task.__init__", defArgs s_Task_init, defBody s_Task_init, defScope s_Task_init, [], []⟩
def fnL0 : List He.DefD := [d_is_whole, d_is_places, d_is_integers, d_is_lot_of_places, d_is_unlike, d_is_jobs, d_is_bench, d_is_wish, d_is_name, d_is_pair]
def fnL1 : List He.DefD := [d_is_unknown, d_check_unknowns, d_check_wishes, d_check_goal, d_jobs_of, d_job_windows, d_starts_in_sequence, d_Lwindows, d_Lstarts, d_Llast]
def fnL2 : List He.DefD := [d_Lare_kept, d_Lsequences, d_end_and_starts, d_least_bench_end, d_Ldraw, d_Lheap, d_Lpick, d_Ltask, d_Lend_right, d_Lsequences_right]
def fnL3 : List He.DefD := [d_Lfree_right, d_Lmany_right, d_Lheard, d_law, d_iR, d_Ti]
def fnL : List He.DefD := fnL0 ++ fnL1 ++ fnL2 ++ fnL3
def faL0 : List He.Fa := [.glo "is_whole", .glo "is_places", .glo "is_integers", .glo "is_lot_of_places", .glo "_is_unlike", .glo "_is_jobs", .glo "_is_bench", .glo "is_wish", .glo "is_name", .glo "is_pair"]
def faL1 : List He.Fa := [.glo "_is_unknown", .glo "_check_unknowns", .glo "_check_wishes", .glo "_check_goal", .glo "jobs_of", .glo "job_windows", .glo "starts_in_sequence", .glo "_law_windows", .glo "_law_starts", .glo "_law_last"]
def faL2 : List He.Fa := [.glo "_law_are_kept", .glo "_law_sequences", .glo "_end_and_starts", .glo "least_bench_end", .glo "_law_draw", .glo "_law_heap", .glo "_law_pick", .glo "_law_task", .glo "_law_end_right", .glo "_law_sequences_right"]
def faL3 : List He.Fa := [.glo "_law_free_right", .glo "_law_many_right", .glo "_law_heard", .glo "law", .glo "InvalidNumber", .glo "Refused", .glo "Task", .glo "WORDS", .glo "WISH_TESTS", .int "MOST_JOBS" 10]
def faL4 : List He.Fa := [.int "LONGEST_NAME" 6, .str "LETTERS" "abcdefghijklmnopqrstuvwxyz", .exm "Refused" "InvalidNumber" false, .exm "Refused" "Refused" true, .cls "Task", .noat "Task" "unknowns", .noat "Task" "wishes", .noat "Task" "goal", .mkr "Task", .free "len"]
def faL5 : List He.Fa := [.free "range", .free "int", .free "abs", .free "all", .free "sum", .free "repr", .free "tuple", .free "bool", .free "str", .free "zip"]
def faL6 : List He.Fa := [.free "min", .free "max", .free "reversed", .free "enumerate", .free "isinstance"]
def faL : List He.Fa := faL0 ++ faL1 ++ faL2 ++ faL3 ++ faL4 ++ faL5 ++ faL6
abbrev pD : He.Defn := ("_law_many_right", none)
def tfL : List He.Defn := [pD]
def tsL : List He.Tab := [(fun K => He.ga K "WISH_TESTS", ["sum", "unlike", "table", "either", "bench", "room", "round"])]
/-- a tuple of the top -/
def tupB (K : Frag) (a : Addr) (xs : List L2.V) : Bool := match K.lookup a with
  | some ⟨.type t, _, .seq its _, _⟩ => decide (t = "tuple") && (decide (its.size ≤ sizeLine) && He.relAll xs its.toList)
  | _ => false
theorem tupB_ok {K : Frag} {a : Addr} {xs : List L2.V} (h : tupB K a xs = true) (H : L2.Hp) : L2.SqT K H a xs := by
  unfold tupB at h
  cases q : K.lookup a with
  | none => rw [q] at h; cases h
  | some o =>
    obtain ⟨oc, od, dt, osl⟩ := o
    rw [q] at h
    cases oc with
    | type t =>
      cases dt with
      | seq its n =>
        obtain ⟨h1, h2⟩ := He.ba h
        obtain ⟨h3, h4⟩ := He.ba h2
        obtain rfl := of_decide_eq_true h1
        exact .inr ⟨_, its, n, q, rfl, rfl, of_decide_eq_true h3, He.relAll_ok h4⟩
      | _ => cases h
    | _ => cases dt <;> cases h
def exB (K : Frag) : Bool := clsB K "InvalidNumber" && (clsB K "Refused" && (tupB K (He.ga K "WORDS") (wordsL.map L2.V.str) && (He.valsB K (He.ga K "WISH_TESTS") [("unlike", .glo "_is_unlike"), ("bench", .glo "_is_bench")] && decide (He.ga K "_is_unlike" ≠ He.ga K "_is_bench"))))
theorem vals_rev : ∀ {zs : List L2.V} {ws : List Value}, L2.Vals zs ws → L2.Vals zs.reverse ws.reverse
  | _, _, .nil => .nil
  | _, _, .cons h t => by
    rw [List.reverse_cons, List.reverse_cons]
    exact (vals_rev t).append (.cons h .nil)
theorem l3v {ws : List Value} (h : ws.length = 3) : ∃ a b c, ws = [a, b, c] := by
  rcases ws with _ | ⟨a, _ | ⟨b, _ | ⟨c, _ | ⟨d, r⟩⟩⟩⟩
  · cases h
  · cases h
  · cases h
  · exact ⟨a, b, c, rfl⟩
  · simp at h
theorem l4v {ws : List Value} (h : ws.length = 4) : ∃ a b c d, ws = [a, b, c, d] := by
  rcases ws with _ | ⟨a, _ | ⟨b, _ | ⟨c, _ | ⟨d, _ | ⟨e, r⟩⟩⟩⟩⟩
  · cases h
  · cases h
  · cases h
  · cases h
  · exact ⟨a, b, c, d, rfl⟩
  · simp at h
section
variable {P : Program} {w : World} {K : Frag} {mg : PySem.Str → Option Value} {base : Heap} {x p1 p2 p3 p4 : PySem.Str} {st : Stmt} {f : Addr} {fd : FuncData} {k : Nat} {sp : Sp} {CX : L2.CXT}
theorem mkI3 (F : Fun K x x st f fd) (ok : FnOk P w K mg base CX k f fd [p1, p2, p3] sp) (hC : CX = CX0 ∨ CX = L2.CX P w) (g : mg x = some (.ref f))
    (h : ∀ (kV doc pm : Value) (an : Option Addr) (cdv ct : Value) (a b c : Value), bindArgs (fnOf x x (defArgs st) (defBody st) (defScope st) .none kV doc pm an cdv ct) ⟨[], [p1, p2, p3].zip [a, b, c]⟩ = pure ([p1, p2, p3].zip [a, b, c])) : CalK P w K mg base k x [p1, p2, p3] id sp := by
  have kp := F.kp
  obtain ⟨oc, od, kV, doc, pm, an, cdv, ct, osl, rfl, lk, hc⟩ := F.ex
  refine ⟨⟨f, _, [p1, p2, p3], id, CX, hC, ok, g, kp, fun s ws hl => ?_, fun _ _ r => r⟩⟩
  obtain ⟨a, b, c, rfl⟩ := l3v hl
  exact .of_eq (h kV doc pm an cdv ct a b c)
theorem mkR3 (F : Fun K x x st f fd) (ok : FnOk P w K mg base CX k f fd [p1, p2, p3] sp) (hC : CX = CX0 ∨ CX = L2.CX P w) (g : mg x = some (.ref f))
    (h : ∀ (kV doc pm : Value) (an : Option Addr) (cdv ct : Value) (a b c : Value), bindArgs (fnOf x x (defArgs st) (defBody st) (defScope st) .none kV doc pm an cdv ct) ⟨[], [p3, p2, p1].zip [a, b, c]⟩ = pure ([p1, p2, p3].zip [c, b, a])) : CalK P w K mg base k x [p3, p2, p1] List.reverse sp := by
  have kp := F.kp
  obtain ⟨oc, od, kV, doc, pm, an, cdv, ct, osl, rfl, lk, hc⟩ := F.ex
  refine ⟨⟨f, _, [p1, p2, p3], List.reverse, CX, hC, ok, g, kp, fun s ws hl => ?_, fun _ _ r => vals_rev r⟩⟩
  obtain ⟨a, b, c, rfl⟩ := l3v (List.length_reverse ▸ hl)
  exact .of_eq (h kV doc pm an cdv ct a b c)
theorem mkI4 (F : Fun K x x st f fd) (ok : FnOk P w K mg base CX k f fd [p1, p2, p3, p4] sp) (hC : CX = CX0 ∨ CX = L2.CX P w) (g : mg x = some (.ref f))
    (h : ∀ (kV doc pm : Value) (an : Option Addr) (cdv ct : Value) (a b c d : Value), bindArgs (fnOf x x (defArgs st) (defBody st) (defScope st) .none kV doc pm an cdv ct) ⟨[], [p1, p2, p3, p4].zip [a, b, c, d]⟩ = pure ([p1, p2, p3, p4].zip [a, b, c, d])) : CalK P w K mg base k x [p1, p2, p3, p4] id sp := by
  have kp := F.kp
  obtain ⟨oc, od, kV, doc, pm, an, cdv, ct, osl, rfl, lk, hc⟩ := F.ex
  refine ⟨⟨f, _, [p1, p2, p3, p4], id, CX, hC, ok, g, kp, fun s ws hl => ?_, fun _ _ r => r⟩⟩
  obtain ⟨a, b, c, d, rfl⟩ := l4v hl
  exact .of_eq (h kV doc pm an cdv ct a b c d)
end
open C8 (Cal Mak)
theorem facts {l : OpenLaw} {w : World} {K : Frag} {h : Heap} {mg : PySem.Str → Option Value} {fa : Addr} (X : K.In h) (G : h.Ns mainGlobals mg) (hfa : mg ("law" : PySem.Str) = some (.ref fa)) (c : He.SaysX faL fnL tsL tfL exB w h K) : LawG l w K 11 63 "script" mg fa h := by
  have cd := c.t.d
  obtain ⟨x1, x⟩ := He.ba c.more
  obtain ⟨x2, x⟩ := He.ba x
  obtain ⟨x3, x⟩ := He.ba x
  obtain ⟨x4, x5⟩ := He.ba x
  have x5 := of_decide_eq_true x5
  have g_is_whole : mg "is_whole" = some (.ref (He.ga K "is_whole")) := He.glo_ok X G (cd.fact 0 (f := .glo "is_whole") rfl)
  obtain ⟨fd_is_whole, W_is_whole⟩ := cd.def_ 0 (d := d_is_whole) rfl
  have F_is_whole : Fun K "is_whole" "is_whole" s_is_whole (He.ga K "is_whole") fd_is_whole := funOf W_is_whole
  have D_is_whole : Df K mg "is_whole" s_is_whole ["value"] := ⟨_, _, F_is_whole, g_is_whole, F_is_whole.binds fun _ _ _ _ _ _ us hl => match us, hl with | [_], _ => rfl⟩
  have g_is_places : mg "is_places" = some (.ref (He.ga K "is_places")) := He.glo_ok X G (cd.fact 1 (f := .glo "is_places") rfl)
  obtain ⟨fd_is_places, W_is_places⟩ := cd.def_ 1 (d := d_is_places) rfl
  have F_is_places : Fun K "is_places" "is_places" s_is_places (He.ga K "is_places") fd_is_places := funOf W_is_places
  have D_is_places : Df K mg "is_places" s_is_places ["value", "size"] := ⟨_, _, F_is_places, g_is_places, F_is_places.binds fun _ _ _ _ _ _ us hl => match us, hl with | [_, _], _ => rfl⟩
  have g_is_integers : mg "is_integers" = some (.ref (He.ga K "is_integers")) := He.glo_ok X G (cd.fact 2 (f := .glo "is_integers") rfl)
  obtain ⟨fd_is_integers, W_is_integers⟩ := cd.def_ 2 (d := d_is_integers) rfl
  have F_is_integers : Fun K "is_integers" "is_integers" s_is_integers (He.ga K "is_integers") fd_is_integers := funOf W_is_integers
  have D_is_integers : Df K mg "is_integers" s_is_integers ["value", "many"] := ⟨_, _, F_is_integers, g_is_integers, F_is_integers.binds fun _ _ _ _ _ _ us hl => match us, hl with | [_, _], _ => rfl⟩
  have g_is_lot_of_places : mg "is_lot_of_places" = some (.ref (He.ga K "is_lot_of_places")) := He.glo_ok X G (cd.fact 3 (f := .glo "is_lot_of_places") rfl)
  obtain ⟨fd_is_lot_of_places, W_is_lot_of_places⟩ := cd.def_ 3 (d := d_is_lot_of_places) rfl
  have F_is_lot_of_places : Fun K "is_lot_of_places" "is_lot_of_places" s_is_lot_of_places (He.ga K "is_lot_of_places") fd_is_lot_of_places := funOf W_is_lot_of_places
  have D_is_lot_of_places : Df K mg "is_lot_of_places" s_is_lot_of_places ["value", "size"] := ⟨_, _, F_is_lot_of_places, g_is_lot_of_places, F_is_lot_of_places.binds fun _ _ _ _ _ _ us hl => match us, hl with | [_, _], _ => rfl⟩
  have g_is_unlike : mg "_is_unlike" = some (.ref (He.ga K "_is_unlike")) := He.glo_ok X G (cd.fact 4 (f := .glo "_is_unlike") rfl)
  obtain ⟨fd_is_unlike, W_is_unlike⟩ := cd.def_ 4 (d := d_is_unlike) rfl
  have F_is_unlike : Fun K "_is_unlike" "_is_unlike" s_is_unlike (He.ga K "_is_unlike") fd_is_unlike := funOf W_is_unlike
  have D_is_unlike : Df K mg "_is_unlike" s_is_unlike ["value", "size"] := ⟨_, _, F_is_unlike, g_is_unlike, F_is_unlike.binds fun _ _ _ _ _ _ us hl => match us, hl with | [_, _], _ => rfl⟩
  have g_is_jobs : mg "_is_jobs" = some (.ref (He.ga K "_is_jobs")) := He.glo_ok X G (cd.fact 5 (f := .glo "_is_jobs") rfl)
  obtain ⟨fd_is_jobs, W_is_jobs⟩ := cd.def_ 5 (d := d_is_jobs) rfl
  have F_is_jobs : Fun K "_is_jobs" "_is_jobs" s_is_jobs (He.ga K "_is_jobs") fd_is_jobs := funOf W_is_jobs
  have D_is_jobs : Df K mg "_is_jobs" s_is_jobs ["value", "size", "many"] := ⟨_, _, F_is_jobs, g_is_jobs, F_is_jobs.binds fun _ _ _ _ _ _ us hl => match us, hl with | [_, _, _], _ => rfl⟩
  have g_is_bench : mg "_is_bench" = some (.ref (He.ga K "_is_bench")) := He.glo_ok X G (cd.fact 6 (f := .glo "_is_bench") rfl)
  obtain ⟨fd_is_bench, W_is_bench⟩ := cd.def_ 6 (d := d_is_bench) rfl
  have F_is_bench : Fun K "_is_bench" "_is_bench" s_is_bench (He.ga K "_is_bench") fd_is_bench := funOf W_is_bench
  have D_is_bench : Df K mg "_is_bench" s_is_bench ["value", "size"] := ⟨_, _, F_is_bench, g_is_bench, F_is_bench.binds fun _ _ _ _ _ _ us hl => match us, hl with | [_, _], _ => rfl⟩
  have g_is_wish : mg "is_wish" = some (.ref (He.ga K "is_wish")) := He.glo_ok X G (cd.fact 7 (f := .glo "is_wish") rfl)
  obtain ⟨fd_is_wish, W_is_wish⟩ := cd.def_ 7 (d := d_is_wish) rfl
  have F_is_wish : Fun K "is_wish" "is_wish" s_is_wish (He.ga K "is_wish") fd_is_wish := funOf W_is_wish
  have D_is_wish : Df K mg "is_wish" s_is_wish ["value", "size"] := ⟨_, _, F_is_wish, g_is_wish, F_is_wish.binds fun _ _ _ _ _ _ us hl => match us, hl with | [_, _], _ => rfl⟩
  have g_is_name : mg "is_name" = some (.ref (He.ga K "is_name")) := He.glo_ok X G (cd.fact 8 (f := .glo "is_name") rfl)
  obtain ⟨fd_is_name, W_is_name⟩ := cd.def_ 8 (d := d_is_name) rfl
  have F_is_name : Fun K "is_name" "is_name" s_is_name (He.ga K "is_name") fd_is_name := funOf W_is_name
  have D_is_name : Df K mg "is_name" s_is_name ["value"] := ⟨_, _, F_is_name, g_is_name, F_is_name.binds fun _ _ _ _ _ _ us hl => match us, hl with | [_], _ => rfl⟩
  have g_is_pair : mg "is_pair" = some (.ref (He.ga K "is_pair")) := He.glo_ok X G (cd.fact 9 (f := .glo "is_pair") rfl)
  obtain ⟨fd_is_pair, W_is_pair⟩ := cd.def_ 9 (d := d_is_pair) rfl
  have F_is_pair : Fun K "is_pair" "is_pair" s_is_pair (He.ga K "is_pair") fd_is_pair := funOf W_is_pair
  have D_is_pair : Df K mg "is_pair" s_is_pair ["value"] := ⟨_, _, F_is_pair, g_is_pair, F_is_pair.binds fun _ _ _ _ _ _ us hl => match us, hl with | [_], _ => rfl⟩
  have g_is_unknown : mg "_is_unknown" = some (.ref (He.ga K "_is_unknown")) := He.glo_ok X G (cd.fact 10 (f := .glo "_is_unknown") rfl)
  obtain ⟨fd_is_unknown, W_is_unknown⟩ := cd.def_ 10 (d := d_is_unknown) rfl
  have F_is_unknown : Fun K "_is_unknown" "_is_unknown" s_is_unknown (He.ga K "_is_unknown") fd_is_unknown := funOf W_is_unknown
  have D_is_unknown : Df K mg "_is_unknown" s_is_unknown ["value"] := ⟨_, _, F_is_unknown, g_is_unknown, F_is_unknown.binds fun _ _ _ _ _ _ us hl => match us, hl with | [_], _ => rfl⟩
  have g_check_unknowns : mg "_check_unknowns" = some (.ref (He.ga K "_check_unknowns")) := He.glo_ok X G (cd.fact 11 (f := .glo "_check_unknowns") rfl)
  obtain ⟨fd_check_unknowns, W_check_unknowns⟩ := cd.def_ 11 (d := d_check_unknowns) rfl
  have F_check_unknowns : Fun K "_check_unknowns" "_check_unknowns" s_check_unknowns (He.ga K "_check_unknowns") fd_check_unknowns := funOf W_check_unknowns
  have D_check_unknowns : Df K mg "_check_unknowns" s_check_unknowns ["value"] := ⟨_, _, F_check_unknowns, g_check_unknowns, F_check_unknowns.binds fun _ _ _ _ _ _ us hl => match us, hl with | [_], _ => rfl⟩
  have g_check_wishes : mg "_check_wishes" = some (.ref (He.ga K "_check_wishes")) := He.glo_ok X G (cd.fact 12 (f := .glo "_check_wishes") rfl)
  obtain ⟨fd_check_wishes, W_check_wishes⟩ := cd.def_ 12 (d := d_check_wishes) rfl
  have F_check_wishes : Fun K "_check_wishes" "_check_wishes" s_check_wishes (He.ga K "_check_wishes") fd_check_wishes := funOf W_check_wishes
  have D_check_wishes : Df K mg "_check_wishes" s_check_wishes ["value", "size"] := ⟨_, _, F_check_wishes, g_check_wishes, F_check_wishes.binds fun _ _ _ _ _ _ us hl => match us, hl with | [_, _], _ => rfl⟩
  have g_check_goal : mg "_check_goal" = some (.ref (He.ga K "_check_goal")) := He.glo_ok X G (cd.fact 13 (f := .glo "_check_goal") rfl)
  obtain ⟨fd_check_goal, W_check_goal⟩ := cd.def_ 13 (d := d_check_goal) rfl
  have F_check_goal : Fun K "_check_goal" "_check_goal" s_check_goal (He.ga K "_check_goal") fd_check_goal := funOf W_check_goal
  have D_check_goal : Df K mg "_check_goal" s_check_goal ["value", "size"] := ⟨_, _, F_check_goal, g_check_goal, F_check_goal.binds fun _ _ _ _ _ _ us hl => match us, hl with | [_, _], _ => rfl⟩
  have g_jobs_of : mg "jobs_of" = some (.ref (He.ga K "jobs_of")) := He.glo_ok X G (cd.fact 14 (f := .glo "jobs_of") rfl)
  obtain ⟨fd_jobs_of, W_jobs_of⟩ := cd.def_ 14 (d := d_jobs_of) rfl
  have F_jobs_of : Fun K "jobs_of" "jobs_of" s_jobs_of (He.ga K "jobs_of") fd_jobs_of := funOf W_jobs_of
  have D_jobs_of : Df K mg "jobs_of" s_jobs_of ["wish"] := ⟨_, _, F_jobs_of, g_jobs_of, F_jobs_of.binds fun _ _ _ _ _ _ us hl => match us, hl with | [_], _ => rfl⟩
  have g_job_windows : mg "job_windows" = some (.ref (He.ga K "job_windows")) := He.glo_ok X G (cd.fact 15 (f := .glo "job_windows") rfl)
  obtain ⟨fd_job_windows, W_job_windows⟩ := cd.def_ 15 (d := d_job_windows) rfl
  have F_job_windows : Fun K "job_windows" "job_windows" s_job_windows (He.ga K "job_windows") fd_job_windows := funOf W_job_windows
  have D_job_windows : Df K mg "job_windows" s_job_windows ["task", "k", "box"] := ⟨_, _, F_job_windows, g_job_windows, F_job_windows.binds fun _ _ _ _ _ _ us hl => match us, hl with | [_, _, _], _ => rfl⟩
  have g_starts_in_sequence : mg "starts_in_sequence" = some (.ref (He.ga K "starts_in_sequence")) := He.glo_ok X G (cd.fact 16 (f := .glo "starts_in_sequence") rfl)
  obtain ⟨fd_starts_in_sequence, W_starts_in_sequence⟩ := cd.def_ 16 (d := d_starts_in_sequence) rfl
  have F_starts_in_sequence : Fun K "starts_in_sequence" "starts_in_sequence" s_starts_in_sequence (He.ga K "starts_in_sequence") fd_starts_in_sequence := funOf W_starts_in_sequence
  have D_starts_in_sequence : Df K mg "starts_in_sequence" s_starts_in_sequence ["task", "k", "box", "sequence"] := ⟨_, _, F_starts_in_sequence, g_starts_in_sequence, F_starts_in_sequence.binds fun _ _ _ _ _ _ us hl => match us, hl with | [_, _, _, _], _ => rfl⟩
  have g_Lwindows : mg "_law_windows" = some (.ref (He.ga K "_law_windows")) := He.glo_ok X G (cd.fact 17 (f := .glo "_law_windows") rfl)
  obtain ⟨fd_Lwindows, W_Lwindows⟩ := cd.def_ 17 (d := d_Lwindows) rfl
  have F_Lwindows : Fun K "_law_windows" "_law_windows" s_Lwindows (He.ga K "_law_windows") fd_Lwindows := funOf W_Lwindows
  have D_Lwindows : Df K mg "_law_windows" s_Lwindows ["wish", "box"] := ⟨_, _, F_Lwindows, g_Lwindows, F_Lwindows.binds fun _ _ _ _ _ _ us hl => match us, hl with | [_, _], _ => rfl⟩
  have g_Lstarts : mg "_law_starts" = some (.ref (He.ga K "_law_starts")) := He.glo_ok X G (cd.fact 18 (f := .glo "_law_starts") rfl)
  obtain ⟨fd_Lstarts, W_Lstarts⟩ := cd.def_ 18 (d := d_Lstarts) rfl
  have F_Lstarts : Fun K "_law_starts" "_law_starts" s_Lstarts (He.ga K "_law_starts") fd_Lstarts := funOf W_Lstarts
  have D_Lstarts : Df K mg "_law_starts" s_Lstarts ["windows", "sequence"] := ⟨_, _, F_Lstarts, g_Lstarts, F_Lstarts.binds fun _ _ _ _ _ _ us hl => match us, hl with | [_, _], _ => rfl⟩
  have g_Llast : mg "_law_last" = some (.ref (He.ga K "_law_last")) := He.glo_ok X G (cd.fact 19 (f := .glo "_law_last") rfl)
  obtain ⟨fd_Llast, W_Llast⟩ := cd.def_ 19 (d := d_Llast) rfl
  have F_Llast : Fun K "_law_last" "_law_last" s_Llast (He.ga K "_law_last") fd_Llast := funOf W_Llast
  have D_Llast : Df K mg "_law_last" s_Llast ["windows", "starts"] := ⟨_, _, F_Llast, g_Llast, F_Llast.binds fun _ _ _ _ _ _ us hl => match us, hl with | [_, _], _ => rfl⟩
  have g_Lare_kept : mg "_law_are_kept" = some (.ref (He.ga K "_law_are_kept")) := He.glo_ok X G (cd.fact 20 (f := .glo "_law_are_kept") rfl)
  obtain ⟨fd_Lare_kept, W_Lare_kept⟩ := cd.def_ 20 (d := d_Lare_kept) rfl
  have F_Lare_kept : Fun K "_law_are_kept" "_law_are_kept" s_Lare_kept (He.ga K "_law_are_kept") fd_Lare_kept := funOf W_Lare_kept
  have D_Lare_kept : Df K mg "_law_are_kept" s_Lare_kept ["windows", "starts"] := ⟨_, _, F_Lare_kept, g_Lare_kept, F_Lare_kept.binds fun _ _ _ _ _ _ us hl => match us, hl with | [_, _], _ => rfl⟩
  have g_Lsequences : mg "_law_sequences" = some (.ref (He.ga K "_law_sequences")) := He.glo_ok X G (cd.fact 21 (f := .glo "_law_sequences") rfl)
  obtain ⟨fd_Lsequences, W_Lsequences⟩ := cd.def_ 21 (d := d_Lsequences) rfl
  have F_Lsequences : Fun K "_law_sequences" "_law_sequences" s_Lsequences (He.ga K "_law_sequences") fd_Lsequences := funOf W_Lsequences
  have D_Lsequences : Df K mg "_law_sequences" s_Lsequences ["many"] := ⟨_, _, F_Lsequences, g_Lsequences, F_Lsequences.binds fun _ _ _ _ _ _ us hl => match us, hl with | [_], _ => rfl⟩
  have g_end_and_starts : mg "_end_and_starts" = some (.ref (He.ga K "_end_and_starts")) := He.glo_ok X G (cd.fact 22 (f := .glo "_end_and_starts") rfl)
  obtain ⟨fd_end_and_starts, W_end_and_starts⟩ := cd.def_ 22 (d := d_end_and_starts) rfl
  have F_end_and_starts : Fun K "_end_and_starts" "_end_and_starts" s_end_and_starts (He.ga K "_end_and_starts") fd_end_and_starts := funOf W_end_and_starts
  have D_end_and_starts : Df K mg "_end_and_starts" s_end_and_starts ["task", "k", "box", "ends"] := ⟨_, _, F_end_and_starts, g_end_and_starts, F_end_and_starts.binds fun _ _ _ _ _ _ us hl => match us, hl with | [_, _, _, _], _ => rfl⟩
  have g_least_bench_end : mg "least_bench_end" = some (.ref (He.ga K "least_bench_end")) := He.glo_ok X G (cd.fact 23 (f := .glo "least_bench_end") rfl)
  obtain ⟨fd_least_bench_end, W_least_bench_end⟩ := cd.def_ 23 (d := d_least_bench_end) rfl
  have F_least_bench_end : Fun K "least_bench_end" "least_bench_end" s_least_bench_end (He.ga K "least_bench_end") fd_least_bench_end := funOf W_least_bench_end
  have D_least_bench_end : Df K mg "least_bench_end" s_least_bench_end ["task", "k", "box"] := ⟨_, _, F_least_bench_end, g_least_bench_end, F_least_bench_end.binds fun _ _ _ _ _ _ us hl => match us, hl with | [_, _, _], _ => rfl⟩
  have g_Ldraw : mg "_law_draw" = some (.ref (He.ga K "_law_draw")) := He.glo_ok X G (cd.fact 24 (f := .glo "_law_draw") rfl)
  obtain ⟨fd_Ldraw, W_Ldraw⟩ := cd.def_ 24 (d := d_Ldraw) rfl
  have F_Ldraw : Fun K "_law_draw" "_law_draw" s_Ldraw (He.ga K "_law_draw") fd_Ldraw := funOf W_Ldraw
  have D_Ldraw : Df K mg "_law_draw" s_Ldraw ["heap", "many"] := ⟨_, _, F_Ldraw, g_Ldraw, F_Ldraw.binds fun _ _ _ _ _ _ us hl => match us, hl with | [_, _], _ => rfl⟩
  have g_Lheap : mg "_law_heap" = some (.ref (He.ga K "_law_heap")) := He.glo_ok X G (cd.fact 25 (f := .glo "_law_heap") rfl)
  obtain ⟨fd_Lheap, W_Lheap⟩ := cd.def_ 25 (d := d_Lheap) rfl
  have F_Lheap : Fun K "_law_heap" "_law_heap" s_Lheap (He.ga K "_law_heap") fd_Lheap := funOf W_Lheap
  have D_Lheap : Df K mg "_law_heap" s_Lheap ["script"] := ⟨_, _, F_Lheap, g_Lheap, F_Lheap.binds fun _ _ _ _ _ _ us hl => match us, hl with | [_], _ => rfl⟩
  have g_Lpick : mg "_law_pick" = some (.ref (He.ga K "_law_pick")) := He.glo_ok X G (cd.fact 26 (f := .glo "_law_pick") rfl)
  obtain ⟨fd_Lpick, W_Lpick⟩ := cd.def_ 26 (d := d_Lpick) rfl
  have F_Lpick : Fun K "_law_pick" "_law_pick" s_Lpick (He.ga K "_law_pick") fd_Lpick := funOf W_Lpick
  have D_Lpick : Df K mg "_law_pick" s_Lpick ["heap", "some"] := ⟨_, _, F_Lpick, g_Lpick, F_Lpick.binds fun _ _ _ _ _ _ us hl => match us, hl with | [_, _], _ => rfl⟩
  have g_Ltask : mg "_law_task" = some (.ref (He.ga K "_law_task")) := He.glo_ok X G (cd.fact 27 (f := .glo "_law_task") rfl)
  obtain ⟨fd_Ltask, W_Ltask⟩ := cd.def_ 27 (d := d_Ltask) rfl
  have F_Ltask : Fun K "_law_task" "_law_task" s_Ltask (He.ga K "_law_task") fd_Ltask := funOf W_Ltask
  have D_Ltask : Df K mg "_law_task" s_Ltask ["heap", "kind"] := ⟨_, _, F_Ltask, g_Ltask, F_Ltask.binds fun _ _ _ _ _ _ us hl => match us, hl with | [_, _], _ => rfl⟩
  have g_Lend_right : mg "_law_end_right" = some (.ref (He.ga K "_law_end_right")) := He.glo_ok X G (cd.fact 28 (f := .glo "_law_end_right") rfl)
  obtain ⟨fd_Lend_right, W_Lend_right⟩ := cd.def_ 28 (d := d_Lend_right) rfl
  have F_Lend_right : Fun K "_law_end_right" "_law_end_right" s_Lend_right (He.ga K "_law_end_right") fd_Lend_right := funOf W_Lend_right
  have D_Lend_right : Df K mg "_law_end_right" s_Lend_right ["task", "k", "box"] := ⟨_, _, F_Lend_right, g_Lend_right, F_Lend_right.binds fun _ _ _ _ _ _ us hl => match us, hl with | [_, _, _], _ => rfl⟩
  have g_Lsequences_right : mg "_law_sequences_right" = some (.ref (He.ga K "_law_sequences_right")) := He.glo_ok X G (cd.fact 29 (f := .glo "_law_sequences_right") rfl)
  obtain ⟨fd_Lsequences_right, W_Lsequences_right⟩ := cd.def_ 29 (d := d_Lsequences_right) rfl
  have F_Lsequences_right : Fun K "_law_sequences_right" "_law_sequences_right" s_Lsequences_right (He.ga K "_law_sequences_right") fd_Lsequences_right := funOf W_Lsequences_right
  have D_Lsequences_right : Df K mg "_law_sequences_right" s_Lsequences_right ["heap", "task", "k", "box"] := ⟨_, _, F_Lsequences_right, g_Lsequences_right, F_Lsequences_right.binds fun _ _ _ _ _ _ us hl => match us, hl with | [_, _, _, _], _ => rfl⟩
  have g_Lfree_right : mg "_law_free_right" = some (.ref (He.ga K "_law_free_right")) := He.glo_ok X G (cd.fact 30 (f := .glo "_law_free_right") rfl)
  obtain ⟨fd_Lfree_right, W_Lfree_right⟩ := cd.def_ 30 (d := d_Lfree_right) rfl
  have F_Lfree_right : Fun K "_law_free_right" "_law_free_right" s_Lfree_right (He.ga K "_law_free_right") fd_Lfree_right := funOf W_Lfree_right
  have D_Lfree_right : Df K mg "_law_free_right" s_Lfree_right ["heap", "task", "k", "box"] := ⟨_, _, F_Lfree_right, g_Lfree_right, F_Lfree_right.binds fun _ _ _ _ _ _ us hl => match us, hl with | [_, _, _, _], _ => rfl⟩
  have g_Lmany_right : mg "_law_many_right" = some (.ref (He.ga K "_law_many_right")) := He.glo_ok X G (cd.fact 31 (f := .glo "_law_many_right") rfl)
  obtain ⟨fd_Lmany_right, W_Lmany_right⟩ := cd.def_ 31 (d := d_Lmany_right) rfl
  have F_Lmany_right : Fun K "_law_many_right" "_law_many_right" s_Lmany_right (He.ga K "_law_many_right") fd_Lmany_right := funOf W_Lmany_right
  have D_Lmany_right : Df K mg "_law_many_right" s_Lmany_right ["many"] := ⟨_, _, F_Lmany_right, g_Lmany_right, F_Lmany_right.binds fun _ _ _ _ _ _ us hl => match us, hl with | [_], _ => rfl⟩
  have g_Lheard : mg "_law_heard" = some (.ref (He.ga K "_law_heard")) := He.glo_ok X G (cd.fact 32 (f := .glo "_law_heard") rfl)
  obtain ⟨fd_Lheard, W_Lheard⟩ := cd.def_ 32 (d := d_Lheard) rfl
  have F_Lheard : Fun K "_law_heard" "_law_heard" s_Lheard (He.ga K "_law_heard") fd_Lheard := funOf W_Lheard
  have D_Lheard : Df K mg "_law_heard" s_Lheard ["work"] := ⟨_, _, F_Lheard, g_Lheard, F_Lheard.binds fun _ _ _ _ _ _ us hl => match us, hl with | [_], _ => rfl⟩
  have g_law : mg "law" = some (.ref (He.ga K "law")) := He.glo_ok X G (cd.fact 33 (f := .glo "law") rfl)
  obtain ⟨fd_law, W_law⟩ := cd.def_ 33 (d := d_law) rfl
  have F_law : Fun K "law" "law" s_law (He.ga K "law") fd_law := funOf W_law
  have g_InvalidNumber : mg "InvalidNumber" = some (.ref (He.ga K "InvalidNumber")) := He.glo_ok X G (cd.fact 34 (f := .glo "InvalidNumber") rfl)
  have g_Refused : mg "Refused" = some (.ref (He.ga K "Refused")) := He.glo_ok X G (cd.fact 35 (f := .glo "Refused") rfl)
  have g_Task : mg "Task" = some (.ref (He.ga K "Task")) := He.glo_ok X G (cd.fact 36 (f := .glo "Task") rfl)
  have g_WORDS : mg "WORDS" = some (.ref (He.ga K "WORDS")) := He.glo_ok X G (cd.fact 37 (f := .glo "WORDS") rfl)
  have g_WISH_TESTS : mg "WISH_TESTS" = some (.ref (He.ga K "WISH_TESTS")) := He.glo_ok X G (cd.fact 38 (f := .glo "WISH_TESTS") rfl)
  obtain ⟨t1, z_MOST⟩ := He.int_ok X G (cd.fact 39 (f := .int "MOST_JOBS" 10) rfl)
  obtain ⟨t2, z_LONG⟩ := He.int_ok X G (cd.fact 40 (f := .int "LONGEST_NAME" 6) rfl)
  obtain ⟨t3, z_LETT⟩ := He.str_ok X G (cd.fact 41 (f := .str "LETTERS" "abcdefghijklmnopqrstuvwxyz") rfl)
  have m1 : exmOne K (.ref (He.ga K "Refused")) (.ref (He.ga K "InvalidNumber")) = some false := of_decide_eq_true (cd.fact 42 (f := .exm "Refused" "InvalidNumber" false) rfl)
  have m2 : exmOne K (.ref (He.ga K "Refused")) (.ref (He.ga K "Refused")) = some true := of_decide_eq_true (cd.fact 43 (f := .exm "Refused" "Refused" true) rfl)
  have cT : Cls K (He.ga K "Task") := He.cls_ok (cd.fact 44 (f := .cls "Task") rfl)
  have n_unknowns : NoAttr K (He.ga K "Task") "unknowns" := He.noat_ok (cd.fact 45 (f := .noat "Task" "unknowns") rfl)
  have n_wishes : NoAttr K (He.ga K "Task") "wishes" := He.noat_ok (cd.fact 46 (f := .noat "Task" "wishes") rfl)
  have n_goal : NoAttr K (He.ga K "Task") "goal" := He.noat_ok (cd.fact 47 (f := .noat "Task" "goal") rfl)
  have mT : Mk K (He.ga K "Task") (He.ma K (He.ga K "Task") "__init__") := He.mkr_ok (cd.fact 48 (f := .mkr "Task") rfl)
  have z_len : mg "len" = none := He.free_ok X G (cd.fact 49 (f := .free "len") rfl)
  have z_range : mg "range" = none := He.free_ok X G (cd.fact 50 (f := .free "range") rfl)
  have z_int : mg "int" = none := He.free_ok X G (cd.fact 51 (f := .free "int") rfl)
  have z_abs : mg "abs" = none := He.free_ok X G (cd.fact 52 (f := .free "abs") rfl)
  have z_all : mg "all" = none := He.free_ok X G (cd.fact 53 (f := .free "all") rfl)
  have z_sum : mg "sum" = none := He.free_ok X G (cd.fact 54 (f := .free "sum") rfl)
  have z_repr : mg "repr" = none := He.free_ok X G (cd.fact 55 (f := .free "repr") rfl)
  have z_tuple : mg "tuple" = none := He.free_ok X G (cd.fact 56 (f := .free "tuple") rfl)
  have z_bool : mg "bool" = none := He.free_ok X G (cd.fact 57 (f := .free "bool") rfl)
  have z_str : mg "str" = none := He.free_ok X G (cd.fact 58 (f := .free "str") rfl)
  have z_zip : mg "zip" = none := He.free_ok X G (cd.fact 59 (f := .free "zip") rfl)
  have z_min : mg "min" = none := He.free_ok X G (cd.fact 60 (f := .free "min") rfl)
  have z_max : mg "max" = none := He.free_ok X G (cd.fact 61 (f := .free "max") rfl)
  have z_reversed : mg "reversed" = none := He.free_ok X G (cd.fact 62 (f := .free "reversed") rfl)
  have z_enumerate : mg "enumerate" = none := He.free_ok X G (cd.fact 63 (f := .free "enumerate") rfl)
  have z_isinstance : mg "isinstance" = none := He.free_ok X G (cd.fact 64 (f := .free "isinstance") rfl)
  obtain ⟨fd_iR, W_iR⟩ := cd.def_ 34 (d := d_iR) rfl
  have F_iR : Fun K "__init__" "Refused.__init__" s_iR (He.ma K (He.ga K "Refused") "__init__") fd_iR := funOf W_iR
  have B_iR : Binds K fd_iR ["self", "word"] [] := F_iR.binds fun _ _ _ _ _ _ us hl => match us, hl with | [_, _], _ => rfl
  obtain ⟨fd_Ti, W_Ti⟩ := cd.def_ 35 (d := d_Ti) rfl
  have F_Ti : Fun K "__init__" "Task.__init__" s_Task_init (He.ma K (He.ga K "Task") "__init__") fd_Ti := funOf W_Ti
  have B_Ti : Binds K fd_Ti ["self", "unknowns", "wishes", "goal"] [] := F_Ti.binds fun _ _ _ _ _ _ us hl => match us, hl with | [_, _, _, _], _ => rfl
  have tN := clsB_ok x1 g_InvalidNumber
  have tR := clsB_ok x2 g_Refused
  obtain ⟨es, nn, kd⟩ := c.t.tab 0 (t := (fun K => He.ga K "WISH_TESTS", ["sum", "unlike", "table", "either", "bench", "room", "round"])) rfl
  have kd : L2.KDict K w (He.ga K "WISH_TESTS") es nn := kd
  have T : Txt K mg w (He.ga K "WORDS") (He.ga K "WISH_TESTS") es nn := ⟨z_len, z_range, z_int, z_abs, z_all, z_sum, z_repr, z_tuple, z_bool, z_str, z_zip, z_min, z_max, z_reversed, z_enumerate, z_isinstance, ⟨_, z_MOST, ⟨_, rfl⟩⟩, ⟨_, z_LONG, ⟨_, rfl⟩⟩, ⟨_, z_LETT, ⟨_, rfl⟩⟩, ⟨_, g_WORDS, rfl⟩, ⟨_, g_WISH_TESTS, rfl⟩, fun H => tupB_ok x3 H, kd⟩
  have CCt : CC K (He.ga K "Task") := ⟨cT, n_unknowns, n_wishes, n_goal⟩
  have E2 : Ex2 K mg (He.ga K "InvalidNumber") (He.ga K "Refused") := ⟨⟨_, tN⟩, ⟨_, tR⟩, m1, m2⟩
  have FC := funCOf (p := pD) F_Lmany_right
  have efa : fa = He.ga K "law" := by
    have e := hfa.symm.trans g_law
    cases e
    rfl
  subst efa
  obtain ⟨u1, e1, r1⟩ := He.valsB_ok x4 (q := ("unlike", .glo "_is_unlike")) (List.mem_cons_self ..)
  obtain ⟨u2, e2, r2⟩ := He.valsB_ok x4 (q := ("bench", .glo "_is_bench")) (List.mem_cons_of_mem _ (List.mem_cons_self ..))
  have tfp : pD ∈ tfL := List.mem_cons_self ..
  refine ⟨fd_law, [He.cT K pD], spLaw K [((He.cT K pD).2, qM)], fun p hp => ?_, fun p hp => ?_, fun p hp => ?_, ?_, ?_, ?_⟩
  · rw [List.mem_singleton.mp hp]
    exact c.empty pD tfp
  · rw [List.mem_singleton.mp hp]
    exact c.out pD tfp
  · rw [List.mem_singleton.mp hp]
    exact codeHd_of_K X (c.hd pD tfp)
  · intro s u
    obtain ⟨oc, od, kV, doc, pm, an, cdv, ct, osl, rfl, lk, hc⟩ := F_law.ex
    exact .of_eq rfl
  · intro H a ns hl _ hH hS
    refine ⟨a, ns, rfl, hS, hl, fun p hp => ?_, fun _ => rfl⟩
    rw [List.mem_singleton.mp hp]
    exact LamX.TabS.nil (hH _ (List.mem_cons_self ..))
  · intro base _ _ TB
    have TA := TB _ (List.mem_cons_self ..)
    have h0 : CX0 = CX0 ∨ CX0 = L2.CX l.prog w := .inl rfl
    have h1 : L2.CX l.prog w = CX0 ∨ L2.CX l.prog w = L2.CX l.prog w := .inr rfl
    have eR : ExK l.prog w K mg base "Refused" (He.ga K "Refused") := ⟨⟨_, _, tR, ok_iR F_iR, B_iR⟩⟩
    have a_is_whole : Cal l.prog w K mg base 1 "is_whole" spWhole [] := cal_of D_is_whole fun _ _ F => ok_is_whole F T
    have a_is_places : Cal l.prog w K mg base 2 "is_places" spPlaces [] := cal_of D_is_places fun _ _ F => ok_is_places F T a_is_whole
    have a_is_integers : Cal l.prog w K mg base 2 "is_integers" spInts [] := cal_of D_is_integers fun _ _ F => ok_is_integers F T a_is_whole
    have a_is_lot_of_places : Cal l.prog w K mg base 3 "is_lot_of_places" spLot [] := cal_of D_is_lot_of_places fun _ _ F => ok_is_lot_of_places F T a_is_places
    have a_is_unlike : Cal l.prog w K mg base 4 "_is_unlike" spUnlike [] := cal_of D_is_unlike fun _ _ F => ok_is_unlike F T a_is_lot_of_places
    have a_is_jobs : Cal l.prog w K mg base 4 "_is_jobs" spJobs [] := cal_of D_is_jobs fun _ _ F => ok_is_jobs F T a_is_integers a_is_lot_of_places
    have a_is_bench : Cal l.prog w K mg base 5 "_is_bench" spBench [] := cal_of D_is_bench fun _ _ F => ok_is_bench F T a_is_jobs
    have TS : Tst l.prog w K mg base (He.ga K "WISH_TESTS") (He.ga K "_is_unlike") (He.ga K "_is_bench") :=
      ⟨⟨_, _, (ok_is_unlike F_is_unlike T a_is_lot_of_places).mono (by decide), F_is_unlike.kp, F_is_unlike.binds fun _ _ _ _ _ _ us hl => match us, hl with | [_, _], _ => rfl⟩, ⟨_, _, ok_is_bench F_is_bench T a_is_jobs, F_is_bench.kp, F_is_bench.binds fun _ _ _ _ _ _ us hl => match us, hl with | [_, _], _ => rfl⟩, ⟨_, _, u1, kd.at_, kd.lit, e1, r1⟩, ⟨_, _, u2, kd.at_, kd.lit, e2, r2⟩, x5⟩
    have a_is_wish : Cal l.prog w K mg base 6 "is_wish" spWish [] := cal_of D_is_wish fun _ _ F => ok_is_wish F T TS
    have a_is_name : Cal l.prog w K mg base 1 "is_name" spName [] := cal_of D_is_name fun _ _ F => ok_is_name F T
    have a_is_pair : Cal l.prog w K mg base 2 "is_pair" spPair [] := cal_of D_is_pair fun _ _ F => ok_is_pair F T a_is_whole
    have a_is_unknown : Cal l.prog w K mg base 3 "_is_unknown" spUnknown [] := cal_of D_is_unknown fun _ _ F => ok_is_unknown F T a_is_name a_is_pair
    have a_check_unknowns : Cal l.prog w K mg base 4 "_check_unknowns" spChU [] := cal_of D_check_unknowns fun _ _ F => ok_check_unknowns F T a_is_unknown
    have a_check_wishes : Cal l.prog w K mg base 7 "_check_wishes" spChW [] := cal_of D_check_wishes fun _ _ F => ok_check_wishes F T a_is_wish
    have a_check_goal : Cal l.prog w K mg base 2 "_check_goal" spChG [] := cal_of D_check_goal fun _ _ F => ok_check_goal F T a_is_whole
    have mkT : Mak l.prog w K mg base 8 "Task" (He.ga K "Task") (spTask (He.ga K "Task")) [] := ⟨_, _, _, [], mT, ok_Task_init F_Ti cT ⟨n_unknowns, n_wishes, n_goal⟩ T a_check_unknowns a_check_wishes a_check_goal, g_Task, B_Ti, .nil⟩
    have a_jobs_of : Cal l.prog w K mg base 1 "jobs_of" spJobsOf [] := cal_of D_jobs_of fun _ _ F => ok_jobs_of F T
    have a_job_windows : Cal l.prog w K mg base 2 "job_windows" (spWin (He.ga K "Task")) [] := cal_of D_job_windows fun _ _ F => ok_job_windows F T CCt a_jobs_of
    have k_job_windows_box_k_task : CalK l.prog w K mg base 2 "job_windows" ["box", "k", "task"] List.reverse (spWin (He.ga K "Task")) := mkR3 F_job_windows (ok_job_windows F_job_windows T CCt a_jobs_of) h0 g_job_windows fun _ _ _ _ _ _ _ _ _ => rfl
    have a_starts_in_sequence : Cal l.prog w K mg base 3 "starts_in_sequence" (spStarts (He.ga K "Task")) [] := cal_of D_starts_in_sequence fun _ _ F => ok_starts_in_sequence F T a_job_windows
    have k_starts_in_sequence_task_k_box_sequence : CalK l.prog w K mg base 3 "starts_in_sequence" ["task", "k", "box", "sequence"] id (spStarts (He.ga K "Task")) := mkI4 F_starts_in_sequence (ok_starts_in_sequence F_starts_in_sequence T a_job_windows) h0 g_starts_in_sequence fun _ _ _ _ _ _ _ _ _ _ => rfl
    have a_Lwindows : Cal l.prog w K mg base 1 "_law_windows" spLWin [] := cal_of D_Lwindows fun _ _ F => ok_Lwindows F T
    have a_Lstarts : Cal l.prog w K mg base 1 "_law_starts" spLSt [] := cal_of D_Lstarts fun _ _ F => ok_Lstarts F T
    have a_Llast : Cal l.prog w K mg base 1 "_law_last" spLast [] := cal_of D_Llast fun _ _ F => ok_Llast F T
    have a_Lare_kept : Cal l.prog w K mg base 1 "_law_are_kept" spKept [] := cal_of D_Lare_kept fun _ _ F => ok_Lare_kept F T
    have a_Lsequences : Cal l.prog w K mg base 1 "_law_sequences" spSeqs [] := cal_of D_Lsequences fun _ _ F => ok_Lsequences F T
    have a_end_and_starts : Cal l.prog w K mg base 4 "_end_and_starts" (spEnd (He.ga K "Task")) [] := cal_of D_end_and_starts fun _ _ F => ok_end_and_starts F T CCt a_starts_in_sequence
    have a_least_bench_end : CalX l.prog w K mg base 5 "least_bench_end" (spLeast (He.ga K "Task") (He.ga K "Refused")) := calx_of D_least_bench_end fun _ _ F => ok_least_bench_end F T CCt eR a_job_windows a_end_and_starts
    have k_least_bench_end_task_k_box : CalK l.prog w K mg base 5 "least_bench_end" ["task", "k", "box"] id (spLeast (He.ga K "Task") (He.ga K "Refused")) := mkI3 F_least_bench_end (ok_least_bench_end F_least_bench_end T CCt eR a_job_windows a_end_and_starts) h1 g_least_bench_end fun _ _ _ _ _ _ _ _ _ => rfl
    have a_Ldraw : Cal l.prog w K mg base 1 "_law_draw" spDraw [] := cal_of D_Ldraw fun _ _ F => ok_draw F T
    have a_Lheap : Cal l.prog w K mg base 1 "_law_heap" (spHeap K) [] := cal_of D_Lheap fun _ _ F => ok_heap F T
    have a_Lpick : Cal l.prog w K mg base 2 "_law_pick" spPickL [] := cal_of D_Lpick fun _ _ F => ok_pickL F T a_Ldraw
    have a_Ltask : Cal l.prog w K mg base 10 "_law_task" (spLTask (He.ga K "Task")) [] := cal_of D_Ltask fun _ _ F => ok_Ltask F T a_Ldraw a_Lpick mkT
    have a_Lend_right : Cal l.prog w K mg base 6 "_law_end_right" (spLEnd (He.ga K "Task")) [] := cal_of D_Lend_right fun _ _ F => ok_Lend_right F T CCt a_Lwindows a_Lsequences a_Lstarts a_Llast a_Lare_kept k_least_bench_end_task_k_box
    have a_Lsequences_right : CalG l.prog w K mg base 4 "_law_sequences_right" (spLSr (He.ga K "Task")) := ⟨_, _, _, ok_Lsequences_right F_Lsequences_right T CCt a_Lwindows a_Lsequences a_Lstarts a_Lpick k_job_windows_box_k_task k_starts_in_sequence_task_k_box_sequence, g_Lsequences_right, F_Lsequences_right.kp, F_Lsequences_right.binds fun _ _ _ _ _ _ us hl => match us, hl with | [_, _, _, _], _ => rfl⟩
    have a_Lfree_right : Cal l.prog w K mg base 10 "_law_free_right" (spLFree (He.ga K "Task")) [] := cal_of D_Lfree_right fun _ _ F => ok_Lfree_right F T CCt a_Lwindows a_Lpick mkT a_least_bench_end
    have a_Lmany_right : Cal l.prog w K mg base 10 "_law_many_right" (spMany [((He.cT K pD).2, qM)]) [] := ⟨_, _, _, [], ok_Lmany_right FC TA (List.mem_cons_self ..) (fun p hp _ => by rw [List.mem_singleton.mp hp]) D_Lheard E2 T CCt mkT a_least_bench_end a_Lwindows a_Lare_kept, g_Lmany_right, F_Lmany_right.kp, F_Lmany_right.binds fun _ _ _ _ _ _ us hl => match us, hl with | [_], _ => rfl, .nil⟩
    have LC : LawC l.prog w K mg base (He.ga K "Task") (He.ga K "Refused") [((He.cT K pD).2, qM)] := ⟨a_Lheap, a_Ltask, a_Lend_right, a_Lsequences_right, a_Lfree_right, a_Lmany_right, mkT, a_least_bench_end, a_starts_in_sequence⟩
    exact ok_law F_law T CCt LC
end M63

open PySem PySem.W PySem.Calls PyProof.Rows
set_option maxHeartbeats 0 in
theorem PySem.Challenge.cw_paperbest_k63_whole_least_ends_of_benche_holds : PySem.Challenge.rw_paperbest_k63_whole_least_ends_of_benche.Holds := by
  w_on; o_law; k_head; (case hw => w_witness2)
  refine Gd.walk_ofG (l := PySem.Challenge.rw_paperbest_k63_whole_least_ends_of_benche) (n := 63) (k := 11) (x := "script") rfl (by decide) (by kernel_rfl) ⟨rfl, by decide, by decide⟩ ?F
  case F =>
    intro w mg fa h Y G hmg
    exact ⟨_, km_in_of Y, M63.facts (km_in_of Y) G hmg ⟨by show He.obsT _ _ _ _ = He.valT _ _ _; kernel_rfl, by kernel_rfl, by intro p hp; rw [List.mem_singleton.mp hp]; kernel_rfl, by intro p hp; rw [List.mem_singleton.mp hp]; kernel_rfl, by intro p hp; rw [List.mem_singleton.mp hp]; exact km_tabs_of Y _ (List.mem_singleton.mpr (by kernel_rfl))⟩⟩
