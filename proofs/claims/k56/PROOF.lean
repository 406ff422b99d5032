import PyProof.Rows.All
import Wide.All
import OpenK.AllK
import Wide.FinOn
import HandS.ForMost
import HandS.Exc
import HandS.WordsExc
import HandS.Codes
import HandS.IsInst
import HandS.Style
import HandS.TupAny
import HandS.TupLe
import HandS.Gcd
import HandS.Zip
import HandS.Deep
import HandS.Wide
import HandS.WideBits
import HandS.ExcInit
import HandS.ExcField
import HandS.TryMany
import HandS.Lambda
import HandS.EndTab
import HandS.Defaults
import HandS.HeadHook1
import HandS.HeadHook2
import HandS.HeadHook3
import HandS.HeadHook4
import KE.KExcIs
import PyProof.ReprRoads
import PyProof.ReprReads
import HandS.Base
import HandS.Call
import HandS.List
import HandS.Iter
import KE.GoesEnum
import KE.KMathG
import HandS.Head0
import HandS.Head1
import HandS.Head2
import HandS.Head3
import HandS.HeadEnd
import HandS.HeadWalk
import HandS.Comp
import KE.GoesMore
import KE.GoesZip
import KE.KDictZip
import HandS.SetFor
import HandS.Conv
import HandS.Sort
import HandS.More
import HandS.CallLocal
import HandS.Rev
import HandS.Small
import HandS.Dict
import HandS.Text
import PySem.Challenge.RW_paperbest_k56_whole_rounding_by_signs
import HandS.Walk
import KE.KStateDown
import KE.KNestM
set_option Elab.async false
set_option linter.all false
set_option maxRecDepth 100000
set_option maxHeartbeats 8000000
/-! What the proofs of several laws share: own errors, isinstance of them, calls that may raise or go by keywords, try with named clauses, tables of code objects, the source of draws. -/
namespace Own
open PySem PySem.Spec PyProof.Rows L2
open C8 (Cal pe_c pe_gc pss_cut)
/-! ### own errors -/
/-- what the text says of an error's class: its name x, its class object at C, its __init__ at fI -/
structure ExT (K : PySem.W.Frag) (mg : Str → Option Value) (x : Str) (C fI : Addr) : Prop where
  oex : OexC K C
  iC : PySem.W.findIn K (.ref C) "__init__" = some (some (.ref fI))
  tI : PySem.W.typeIn K (.ref fI) = some (.type "function")
  gC : mg x = some (.ref C)
  xf : XfC K C
  noW : PySem.W.findIn K (.ref C) "word" = some none
/-- the fresh exception at a gets its word y: its dict stands at d -/
def exoHp (H : Hp) (a C d : Addr) (y : V) : Hp := upd (upd H d (exd d [("word", y)])) a (exo a C (some d))
def spInit (K : PySem.W.Frag) : Sp := fun vs H Q _ => ∃ (a C : Addr) (y : V), vs = [.ref a, y] ∧ OexC K C ∧ PySem.W.findIn K (.ref C) "word" = some none ∧ H a = some (exo a C none) ∧ ∀ d, H d = none → d ≠ a → Q .non (exoHp H a C d y)
/-- the class x at C with its __init__ -/
structure ExK (P : Program) (w : World) (K : PySem.W.Frag) (mg : Str → Option Value) (base : Heap) (x : Str) (C : Addr) : Prop where
  ex : ∃ (fI : Addr) (fd : FuncData), ExT K mg x C fI ∧ FnOk P w K mg base CX0 1 fI fd ["self", "word"] (spInit K) ∧ Binds K fd ["self", "word"] []
theorem ExK.T {P : Program} {w : World} {K : PySem.W.Frag} {mg : Str → Option Value} {base : Heap} {x : Str} {C : Addr} (c : ExK P w K mg base x C) : ∃ fI, ExT K mg x C fI := by
  obtain ⟨fI, fd, T, _⟩ := c.ex
  exact ⟨fI, T⟩
theorem ExK.oex {P : Program} {w : World} {K : PySem.W.Frag} {mg : Str → Option Value} {base : Heap} {x : Str} {C : Addr} (c : ExK P w K mg base x C) : OexC K C := c.T.choose_spec.oex
theorem ExK.noW {P : Program} {w : World} {K : PySem.W.Frag} {mg : Str → Option Value} {base : Heap} {x : Str} {C : Addr} (c : ExK P w K mg base x C) : PySem.W.findIn K (.ref C) "word" = some none := c.T.choose_spec.noW
/-- a new exception with the word y -/
def MkE (K : PySem.W.Frag) (C : Addr) (y : V) (H1 : Hp) (Q : XK) : Prop := [y].length ≤ 1000 ∧ ∀ a, H1 a = none → spInit K (.ref a :: ([y] ++ [])) (upd H1 a (exo a C none))
  (fun v H2 => v = .non ∧ ∃ (d : Addr) (fs : List (Str × V)), H2 a = some (exo a C (some d)) ∧ H2 d = some (exd d fs) ∧ H1 d = none ∧ Q (.ref C) (some d) (upd (del H2 a) d (.xd fs))) (fun _ _ _ => False)
theorem mkE_of {K : PySem.W.Frag} {C : Addr} {y : V} {H1 : Hp} {Q : XK} (T : OexC K C) (no : PySem.W.findIn K (.ref C) "word" = some none) (h : ∀ d H2, Same H1 H2 → H2 d = some (.xd [("word", y)]) → Q (.ref C) (some d) H2) : MkE K C y H1 Q := by
  refine ⟨show (1 : Nat) ≤ 1000 from by decide, fun a na => ⟨a, C, y, rfl, T, no, upd_same, fun d nd ne => ⟨rfl, d, _, upd_same, ?_, ?_, h d _ ?_ upd_same⟩⟩⟩
  · unfold exoHp
    rw [upd_ne ne, upd_same]
  · rw [upd_ne ne] at nd; exact nd
  · rw [upd_ne ne] at nd
    intro b o e
    have b1 : b ≠ d := ne_of_none e nd
    have b2 : b ≠ a := ne_of_none e na
    unfold exoHp
    rw [upd_ne b1, del_ne b2, upd_ne b2, upd_ne b1, upd_ne b2]
    exact e
def tNewE (K : PySem.W.Frag) (C : Addr) (te : TE) : L2.St → Hp → XK → Prop := fun σ H Q => te σ H fun y H1 => MkE K C y H1 Q
section
variable {X : Cx} {x : Str} {C : Addr} {e : Expr} {te : TE} {p pos pos2 : Pos} {j : Nat}
theorem pmk_new (c : ExK X.prog X.w X.K X.mg X.base x C) (hr : Room j X.A) (hk : 2 ≤ j) (hg : Gl X x) (he : PE X e te) (hdb : (x == ("__debug__" : Str)) = false := by decide)
    (hs : starEach [e] X.env = (false, eval e X.env) :: starEach [] X.env := by rfl) (hpl : (backTo pos (starEach [] X.env)).any (·.1) = false := by rfl) : PMk X (.Call (.Name x p) [e] [] pos) (tNewE X.K C te) := by
  obtain ⟨fI, fd, T, F, b⟩ := c.ex
  exact pmk_oex T.oex T.iC T.tI F (hr.mono hk) b .nil pass0 hg T.gC (pa_cons he pa_nil hs) hdb hs hpl
/-- raise x(e) -/
def tRaiseE (K : PySem.W.Frag) (W : WX) (C : Addr) (te : TE) : TS := fun _ σ H => tNewE K C te σ H fun cls d H' => W cls d σ H'
theorem ps_raiseE {W : WX} (hc : X.calm = true) (tk : L2.Takes X W) (c : ExK X.prog X.w X.K X.mg X.base x C) (hr : Room j X.A) (hk : 2 ≤ j) (hg : Gl X x) (he : PE X e te) (hdb : (x == ("__debug__" : Str)) = false := by decide)
    (hs : starEach [e] X.env = (false, eval e X.env) :: starEach [] X.env := by rfl) (hpl : (backTo pos (starEach [] X.env)).any (·.1) = false := by rfl) : PS X (.Raise (some (.Call (.Name x p) [e] [] pos)) none pos2) (tRaiseE X.K W C te) :=
  ps_raise hc tk (pmk_new c hr hk hg he hdb hs hpl)
end
/-! ### an exception as a value -/
/-- x(e) as a value -/
def tValE (K : PySem.W.Frag) (C : Addr) (te : TE) : TE := fun σ H Q => te σ H fun y H1 => ∀ a d H2, Same H1 H2 → H1 a = none → H1 d = none → H2 a = some (exo a C (some d)) → H2 d = some (exd d [("word", y)]) → Q (.ref a) H2
section
variable {X : Cx} {x : Str} {C : Addr} {e : Expr} {te : TE} {p pos : Pos} {j : Nat}
theorem pe_newE (c : ExK X.prog X.w X.K X.mg X.base x C) (hr : Room j X.A) (hk : 2 ≤ j) (hg : Gl X x) (ha : PE X e te) (hdb : (x == ("__debug__" : Str)) = false := by decide)
    (he : starEach [e] X.env = (false, eval e X.env) :: starEach [] X.env := by rfl) (hpl : (backTo pos (starEach [] X.env)).any (·.1) = false := by rfl) : PE X (.Call (.Name x p) [e] [] pos) (tValE X.K C te) := by
  obtain ⟨fI, fd, T, F1, hb⟩ := c.ex
  have T0 := T.oex
  obtain ⟨nm, q, N, bs, bm, sn, sub, ab, col, dd, k0, k1, k2, k3, k5, hC, hbm⟩ := T0.cls
  refine ⟨fun pins s σ H Q I h => ?_⟩
  refine wpAny_Call_Name_kw (ld_glob I hg T.gC ?_ hdb)
  refine PySem.W.callWith_K (h₀ := X.base) I.ok.mod.kin T0.kC (thn ((pa_cons ha pa_nil he).run pos pins s σ H (fun vs H1 => match vs with | [y] => ∀ a d H2, Same H1 H2 → H1 a = none → H1 d = none → H2 a = some (exo a C (some d)) → H2 d = some (exd d [("word", y)]) → Q (.ref a) H2 | _ => False) I h) fun us s1 ⟨vs, H1, I1, r1, q1⟩ => ⟨I1.kIn, ?_⟩) he hpl
  obtain ⟨y, rfl⟩ : ∃ y, vs = [y] := by
    match vs, q1 with
    | [y], _ => exact ⟨y, rfl⟩
  replace q1 : ∀ a d H2, Same H1 H2 → H1 a = none → H1 d = none → H2 a = some (exo a C (some d)) → H2 d = some (exd d [("word", y)]) → Q (.ref a) H2 := q1
  show wpAny _ _ (call (.ref C) us) _ _ _
  obtain ⟨hp, g, dr, tk, os⟩ := s1
  have hsz : hp.objs.size ≤ hp.objs.size + 1 := Nat.le_succ _
  have hn : H1 (hp.objs.size + 1) = none := I1.hok.fresh hsz
  have kk : ∀ b o, hp.get? b = some o → ((hp.push (PySem.W.kdv_tup us)).push (PySem.HandSPX.excO C hp.objs.size)).get? b = some o := fun b o e => Heap.get?_push_of_some _ (Heap.get?_push_of_some _ e)
  have hget : ((hp.push (PySem.W.kdv_tup us)).push (PySem.HandSPX.excO C hp.objs.size)).get? (hp.objs.size + 1) = some (PySem.HandSPX.excO C hp.objs.size) := by heap_get
  have I2 : Inv X pins σ (upd H1 (hp.objs.size + 1) (exo (hp.objs.size + 1) C none)) ⟨(hp.push (PySem.W.kdv_tup us)).push (PySem.HandSPX.excO C hp.objs.size), g, dr, tk, os⟩ :=
    I1.laid (t' := tk) (a := hp.objs.size + 1) (o := exo (hp.objs.size + 1) C none) (h' := (hp.push (PySem.W.kdv_tup us)).push (PySem.HandSPX.excO C hp.objs.size)) kk hsz (exo_ok hget)
  have r2 : Vals [V.ref (hp.objs.size + 1), y] (Value.ref (hp.objs.size + 1) :: us) := .cons rfl r1
  have hl : (Value.ref (hp.objs.size + 1) :: us ++ []).length = 2 := by rw [List.append_nil]; exact r2.length.symm
  have hus : us.length ≤ sizeLine := by
    rw [← Paired.length r1, sizeLine_eq]
    exact (by decide : 1 ≤ 16777216)
  have hsp : spInit X.K [V.ref (hp.objs.size + 1), y] (upd H1 (hp.objs.size + 1) (exo (hp.objs.size + 1) C none)) (fun v H2 => v = .non ∧ ∃ d, H1 d = none ∧ Same H1 H2 ∧ H2 (hp.objs.size + 1) = some (exo (hp.objs.size + 1) C (some d)) ∧ H2 d = some (exd d [("word", y)])) (fun _ _ _ => False) := by
    refine ⟨_, C, y, rfl, T0, T.noW, upd_same, fun d nd ne => ⟨rfl, d, ?_, ?_, upd_same, ?_⟩⟩
    · rw [upd_ne ne] at nd; exact nd
    · rw [upd_ne ne] at nd
      intro b o e
      have b1 : b ≠ d := ne_of_none e nd
      have b2 : b ≠ hp.objs.size + 1 := ne_of_none e hn
      unfold exoHp
      rw [upd_ne b2, upd_ne b1, upd_ne b2]
      exact e
    · unfold exoHp
      rw [upd_ne ne, upd_same]
  refine wpAny_call (PySem.HandSPX.call_own F.excBase_ValueError (fun Y => PySem.HandSPX.refsVE_contains Y bm hbm) (I1.kIn _ _ hC) (PySem.W.looks_findIn I1.kIn T.iC) (fun self => PySem.W.bind_fn I1.kIn self T.tI) hus
    (codeAny_mono ((F1.mono (show 1 ≤ 1 from Nat.le_refl _)).run _ X.stack _ _ ⟨Value.ref (hp.objs.size + 1) :: us, []⟩ (Value.ref (hp.objs.size + 1) :: us ++ []) _ _ (fun _ _ _ => False) ((hr.mono hk).make C us []) (I2.env0.make C us []) (hb _ (Value.ref (hp.objs.size + 1) :: us) I2.kIn hl) (by rw [List.append_nil]; exact r2) hsp) fun r s' hq' => ?_))
  cases r with
  | error er => exact (show False from hq').elim
  | ok fl =>
    cases fl with
    | ret u =>
      obtain ⟨v, H2, os2, bare2, un2, hok2, rv, ev, d, nd, sm, ea, ed⟩ := hq'
      subst ev
      obtain ⟨h2, g2, d2, t2, os'⟩ := s'
      refine ⟨rv, ?_⟩
      have J := I2.call' (ch := []) os2 un2 hok2 bare2 (fun b z => absurd z (by simp))
      exact ⟨.ref (hp.objs.size + 1), H2, J, rfl, q1 _ d H2 sm hn nd ea ed⟩
    | next => exact False.elim hq'
    | brk => exact False.elim hq'
    | cont => exact False.elim hq'
end
theorem same_upd {H : Hp} {p : Addr} {o : HO} (h : H p = none) : Same H (upd H p o) := fun b x e => by
  rw [upd_ne (ne_of_none e h)]; exact e
theorem same_at {H0 H : Hp} {D : Addr} {o : HO} (s : Same H0 H) (n : H0 D = none) : Same H0 (upd H D o) := fun b x e => by
  rw [upd_ne (ne_of_none e n)]; exact s _ _ e
theorem sq_tup {K : PySem.W.Frag} {H : Hp} {p : Addr} {xs : List V} (h : H p = some (.tup xs)) : SqT K H p xs := .inl (.inl h)
theorem sq_lst {K : PySem.W.Frag} {H : Hp} {p : Addr} {xs : List V} (h : H p = some (.lst xs)) : SqL K H p xs := .inl (.inl h)
theorem ne_of {H : Hp} {a b : Addr} {x y : HO} (ha : H a = some x) (hb : H b = some y) (n : x ≠ y) : a ≠ b := fun z => by
  rw [z, hb] at ha
  exact n (Option.some.inj ha).symm
/-! ### isinstance, of own errors too -/
structure IsE (K : PySem.W.Frag) (C : Addr) : Prop where
  cl : (PySem.W.clsIn K C).isSome = true
  ga : PySem.W.findIn K (.ref C) "__getattribute__" = some (some (.builtin "BaseException.__getattribute__"))
  gg : PySem.W.findIn K (.ref C) "__getattr__" = some none
  exC : PySem.W.subIn K (.ref C) (.type "BaseException") = some true
  ha : PySem.W.findIn K (.ref C) "__class__" = some (some (.builtin "object.__class__"))
  hn : PySem.W.specialIn K (.builtin "object.__class__") "__get__" = some (some (.builtin "getset_descriptor.__get__"))
  htk : PySem.W.takesIn K (.builtin "object.__class__") = some true
  hm : PySem.W.mroIn K C (.type "object") = some true
inductive TyE (K : PySem.W.Frag) (H : Hp) : V → Value → Prop where
  | base {x : V} {t : Value} (h : TyX K H x t) : TyE K H x t
  | exc {a C d : Addr} {fs : List (Str × V)} (T : IsE K C) (e : H a = some (exo a C (some d))) (f : H d = some (exd d fs)) : TyE K H (.ref a) (.ref C)
def rIsE (K : PySem.W.Frag) : List V → Hp → VK → Prop := fun xs H Q => ∃ (x : V) (t : Value) (n : String) (b : Bool), xs = [x, .ty n] ∧ TyE K H x t ∧ PySem.W.kitOne K t (.type n) = some b ∧ Q (.bl b) H
section
variable {X : Cx}
theorem call_isE : CallR X (.builtin "isinstance") (rIsE X.K) := by
  intro pins s σ H xs us Q I r h
  obtain ⟨x, t, n, b, rfl, ty, e, q⟩ := h
  cases ty with
  | base ty => exact call_isi pins s σ H _ us Q I r ⟨x, .ty n, t, .type n, b, rfl, .ty n, ty, e, q⟩
  | @exc a C d fs T ea ed =>
    obtain ⟨u1, u2, rfl, r1, r2⟩ := vals2 r
    cases (show u1 = Value.ref a from r1)
    cases (show u2 = Value.type n from r2)
    obtain ⟨t1, ho⟩ := exo_at I.hok ea
    obtain ⟨mA, ⟨od, es, ep, hd, hrest⟩, rel⟩ := exd_at I.hok ed
    have J : PySem.W.InstAt s.heap a { cls := .ref C, dict := some d, data := .fields #[.ref t1, .none, .none, .none, .bool false, .none] } C (some od) := ⟨ho, rfl, rfl, hd⟩
    exact PySem.W.kia_one (PySem.W.kitx_exc T.cl T.ga T.gg T.exC T.ha T.hn T.htk T.hm) I.kIn J e (fun z => nomatch z) fun tk => ⟨.bl b, H, I.tok tk, rfl, q⟩
/-! ### // by any divisor but 0 -/
def CDivX (_ j : Int) : Prop := j ≠ 0 ∧ j.natAbs.log2 < 9000
theorem op_fdivX : OpR X (binaryOp .FloorDiv) (rI CDivX fun i j => .int (i.fdiv j)) := opI fun i j _ _ _ _ _ hc q => floordiv_int hc.1 q (.inl (PyProof.noPylong_of_log2 hc.2))
end
theorem divx_ok {i j : Int} {b : Nat} (h : j ≠ 0) (hb : j.natAbs < 2 ^ b) (h0 : 0 < b) (h9 : b ≤ 9000) : CDivX i j := ⟨h, Nat.lt_of_lt_of_le (PySem.Flt.log2_lt_of h0 hb) h9⟩
/-! ### calls -/
/-- a def that may raise -/
structure CalX (P : Program) (w : World) (K : PySem.W.Frag) (mg : Str → Option Value) (base : Heap) (k : Nat) (x : Str) (sp : Sp) : Prop where
  ex : ∃ (f : Addr) (fd : FuncData) (ps : List Str), FnOk P w K mg base (L2.CX P w) k f fd ps sp ∧ mg x = some (.ref f) ∧ PySem.W.keepIn K (.ref f) = true ∧ Binds K fd ps []
section
variable {X : Cx} {k j : Nat} {x : Str} {sp : Sp} {e : Expr} {es : List Expr} {t : TA} {p pos : Pos}
/-- x(..), where x raises nothing -/
theorem pe_x (c : CalX X.prog X.w X.K X.mg X.base k x sp) (hr : Room j X.A) (hk : k ≤ j) (hg : Gl X x) (ha : PA X (e :: es) t)
    (hdb : (x == ("__debug__" : Str)) = false := by decide) (he : starEach (e :: es) X.env = (false, eval e X.env) :: starEach es X.env := by rfl) (hpl : (backTo pos (starEach es X.env)).any (·.1) = false := by rfl) :
    PE X (.Call (.Name x p) (e :: es) [] pos) (tCall sp [] L2.E0 t) := by
  obtain ⟨f, fd, ps, F, hm, kp, b⟩ := c.ex
  exact pe_call F (hr.mono hk) hg hm kp b .nil passL ha hdb he hpl
/-- x(..), where what x raises goes on as E -/
theorem pe_xE {E : XK} (hx : Passes (L2.CX X.prog X.w) X E) (c : CalX X.prog X.w X.K X.mg X.base k x sp) (hr : Room j X.A) (hk : k ≤ j) (hg : Gl X x) (ha : PA X (e :: es) t)
    (hdb : (x == ("__debug__" : Str)) = false := by decide) (he : starEach (e :: es) X.env = (false, eval e X.env) :: starEach es X.env := by rfl) (hpl : (backTo pos (starEach es X.env)).any (·.1) = false := by rfl) :
    PE X (.Call (.Name x p) (e :: es) [] pos) (tCall sp [] E t) := by
  obtain ⟨f, fd, ps, F, hm, kp, b⟩ := c.ex
  exact pe_call F (hr.mono hk) hg hm kp b .nil hx ha hdb he hpl
end
/-- two, exchanged -/
def sw {α : Type} : List α → List α
  | [x, y] => [y, x]
  | _ => []
/-- a call with keywords alone -/
structure CalK (P : Program) (w : World) (K : PySem.W.Frag) (mg : Str → Option Value) (base : Heap) (k : Nat) (x : Str) (ks : List Str) (gV : List V → List V) (sp : Sp) : Prop where
  ex : ∃ (f : Addr) (fd : FuncData) (ps : List Str) (gu : List Value → List Value) (CX : CXT), (CX = CX0 ∨ CX = L2.CX P w) ∧ FnOk P w K mg base CX k f fd ps sp ∧ mg x = some (.ref f) ∧ PySem.W.keepIn K (.ref f) = true ∧
    (∀ (s : Shared) (ws : List Value), (gu ws).length = ps.length → BindsTo s fd ⟨[], ks.zip ws⟩ (ps.zip (gu ws))) ∧ ∀ (zs : List V) (ws : List Value), Vals zs ws → Vals (gV zs) (gu ws)
def tKw (sp : Sp) (gV : List V → List V) (E : XK) (tk : TA) : TE := fun σ H Q => tk σ H fun zs H1 => sp (gV zs) H1 Q E
section
variable {X : Cx} {k j : Nat} {x : Str} {ks : List Str} {gV : List V → List V} {sp : Sp} {p pos : Pos} {kws : List Keyword} {tk : TA}
theorem pe_kwE {E : XK} (hx : Passes (L2.CX X.prog X.w) X E) (c : CalK X.prog X.w X.K X.mg X.base k x ks gV sp) (hr : Room j X.A) (hk : k ≤ j) (hg : Gl X x) (hkw : PK X kws tk)
    (hall : (backToKw pos (keywordEach kws X.env)).all (·.1.isSome) = true := by rfl) (hks : (backToKw pos (keywordEach kws X.env)).filterMap (·.1) = ks := by rfl) (hdb : (x == ("__debug__" : Str)) = false := by decide)
    (hpl : ((backTo pos (starEach [] X.env)).any (·.1) || (backToKw pos (keywordEach kws X.env)).any (·.1.isNone)) = false := by rfl) : PE X (.Call (.Name x p) [] kws pos) (tKw sp gV E tk) := by
  obtain ⟨f, fd, ps, gu, CX, hC, F, hm, kp, bt, rel⟩ := c.ex
  refine ⟨fun pins s1 σ H Q I hh => wpAny_Call_Name_kw (ld_glob I hg hm ?_ hdb)⟩
  refine PySem.W.callWith_KW0 (h₀ := X.base) I.ok.mod.kin kp hall (thn (hkw.run pos pins s1 σ H _ I hh) fun ws s2 hz => ?_) hpl
  obtain ⟨zs, H2, I2, rz, q2⟩ := hz
  refine ⟨I2.kIn, ?_⟩
  rw [hks]
  have r2 := rel zs ws rz
  have hl : (gu ws).length = ps.length := r2.length.symm.trans (F.len _ _ _ _ q2)
  refine wpAny_call (codeAny_mono ((F.mono hk).run X.A X.stack s2 H2 ⟨[], ks.zip ws⟩ (gu ws) (gV zs) Q E hr I2.env0 (bt s2 ws hl) r2 q2) fun r s3 hq => ?_)
  cases r with
  | error e =>
    rcases hC with rfl | rfl
    · exact (show False from hq).elim
    · exact hx pins σ H2 s2 e s3 I2 hq
  | ok fl =>
    cases fl with
    | ret u => exact I2.after hq
    | next => exact hq.elim
    | brk => exact hq.elim
    | cont => exact hq.elim
theorem pe_kw (c : CalK X.prog X.w X.K X.mg X.base k x ks gV sp) (hr : Room j X.A) (hk : k ≤ j) (hg : Gl X x) (hkw : PK X kws tk)
    (hall : (backToKw pos (keywordEach kws X.env)).all (·.1.isSome) = true := by rfl) (hks : (backToKw pos (keywordEach kws X.env)).filterMap (·.1) = ks := by rfl) (hdb : (x == ("__debug__" : Str)) = false := by decide)
    (hpl : ((backTo pos (starEach [] X.env)).any (·.1) || (backToKw pos (keywordEach kws X.env)).any (·.1.isNone)) = false := by rfl) : PE X (.Call (.Name x p) [] kws pos) (tKw sp gV L2.E0 tk) := pe_kwE passL c hr hk hg hkw hall hks hdb hpl
end
/-- a def of the text, its name, how it binds -/
structure Df (K : PySem.W.Frag) (mg : Str → Option Value) (x : Str) (st : Stmt) (ps : List Str) : Prop where
  ex : ∃ f fd, Fun K x x st f fd ∧ mg x = some (.ref f) ∧ Binds K fd ps []
section
variable {P : Program} {w : World} {K : PySem.W.Frag} {mg : Str → Option Value} {base : Heap}
theorem cal_of {x : Str} {st : Stmt} {ps : List Str} {k : Nat} {sp : Sp} (D : Df K mg x st ps) (h : ∀ f fd, Fun K x x st f fd → FnOk P w K mg base CX0 k f fd ps sp) : Cal P w K mg base k x sp [] := by
  obtain ⟨f, fd, F, hm, b⟩ := D.ex
  exact ⟨f, fd, ps, [], h f fd F, hm, F.kp, b, .nil⟩
theorem calx_of {x : Str} {st : Stmt} {ps : List Str} {k : Nat} {sp : Sp} (D : Df K mg x st ps) (h : ∀ f fd, Fun K x x st f fd → FnOk P w K mg base (L2.CX P w) k f fd ps sp) : CalX P w K mg base k x sp := by
  obtain ⟨f, fd, F, hm, b⟩ := D.ex
  exact ⟨f, fd, ps, h f fd F, hm, F.kp, b⟩
end
/-! ### several clauses, each with the same name -/
abbrev Suite := Addr → Value → Option Addr → TS
/-- the ends behind a clause: its name is gone -/
def offName (i : Nat) (D : Ends) : Ends := { nx := fun σ H => D.nx (σ.set i none) H, rt := D.rt, bk := fun σ H => D.bk (σ.set i none) H, ct := fun σ H => D.ct (σ.set i none) H }
def wNamed (K : PySem.W.Frag) (i : Nat) (Wout : WX) (D : Ends) : List (Value × Suite) → WX
  | [] => Wout
  | z :: r => fun cls d σ H => ∃ b, PySem.W.exmOne K cls z.1 = some b ∧ (b = true → ∀ a, H a = none → i < σ.length → z.2 a cls d (offName i D) (σ.set i (some (.ref a))) H) ∧ (b = false → wNamed K i Wout D r cls d σ H)
inductive Clauses (X : Cx) (n : Str) : List ExceptHandler → List (Value × Suite) → Prop
  | nil : Clauses X n [] []
  | cons {x : Str} {c : Value} {ts : Suite} {b : Stmt} {bs : List Stmt} {p q : Pos} {hs : List ExceptHandler} {l : List (Value × Suite)} (nm : Names X x c)
      (su : ∀ (a : Addr) (oe : Obj) (cls : Value) (d : Option Addr) (pn : List (Addr × Obj)), Zc cls d oe → (∃ vs, oe.data = .fields vs) → PSs (X.suite a ((a, oe) :: pn)) (b :: bs) (ts a cls d)) (r : Clauses X n hs l) :
      Clauses X n (.ExceptHandler (some (.Name x p)) (some n) (b :: bs) q :: hs) ((c, ts) :: l)
section
variable {X : Cx} {pins : List (Addr × Obj)} {n : Str} {i : Nat} {Wout : WX} {D : Ends} {body : List Stmt} {tb : WX → TS} {pos : Pos}
/-- what flies has met no clause yet -/
theorem clauses_go (hs : X.stack = X.env :: X.outer) (hf : X.env.frame = some X.env.locals) (hN : X.N.Nodup) (hi : X.N[i]? = some n) (hl : X.env.kindOf n = some .local) (tk : L2.Takes X Wout)
    {a : Addr} {B : Heap} {cls : Value} {d : Option Addr} {σ : L2.St} {H : Hp} {s : Shared} {sI : Shared} (ok : X.Ok) (J : Inv X pins σ H sI) (nb : ∀ b o, sI.heap.get? b = some o → b ∉ frs X.stack → B.get? b = some o) (os : s.os = sI.os) (ag : AllBare s.gens) (na : H a = none)
    {h3 : Heap} (fl3 : HandSPX.FlyingZ B (X.env :: X.outer) a (Zc cls d) h3) (up3 : sI.heap.UpToSlots h3) : ∀ {hds : List ExceptHandler} {l : List (Value × Suite)}, Clauses X n hds l → wNamed X.K i Wout D l cls d σ H →
      wpAny (model X.prog X.w) X.A (handleBy (.ref a) X.env hds) (SP X pins D) X.xe { s with heap := h3 } := by
  have hfr : X.A.frames = some (X.env :: X.outer) := by rw [ok.frames, hs]
  have J3 : Inv X pins σ H { s with heap := h3 } := J.landed nb fl3.1 up3 os ag
  obtain ⟨oe, vs, he, hz, hd⟩ := id fl3.there
  have apart : a ∉ frs (X.env :: X.outer) := fun hm => by
    obtain ⟨_, o, e, hnf⟩ := fl3.2.2.1.mem hm
    rw [he] at e
    cases e
    exact hnf _ hd
  have nL : a ≠ X.env.locals := fun z => apart (List.mem_filterMap.mpr ⟨X.env, List.mem_cons_self, by rw [hf, z]⟩)
  have nF : a ∉ X.fs := fun hm => by
    obtain ⟨e, q1, q2⟩ := List.mem_filterMap.mp hm
    exact apart (List.mem_filterMap.mpr ⟨e, List.mem_cons_of_mem _ q1, q2⟩)
  have S3 := J3.suite he hd na nL nF
  have hlt : i < σ.length := by rw [J.len]; exact (List.getElem?_eq_some_iff.mp hi).1
  have LT : PySem.W.Looks (model X.prog X.w) h3 (typeOf (.ref a)) cls := fun A Q E s k q => wpAny_typeOf_ref (k _ _ he) (by rw [hz.1]; exact q)
  intro hds l C
  induction C with
  | nil =>
    intro w
    refine wpAny_handleBy_nil ?_
    obtain ⟨_, _, _, oe', vs', T, _, _, e1, _, e2, e3, _⟩ := id fl3
    unfold PySem.passOn
    refine wpAny_bind (wpAny_field e1 e2 e3 ?_)
    rw [if_neg (show ¬ ((Value.ref T == Value.none) = true) from by simp)]
    have fin : wpAny (model X.prog X.w) X.A (setFlight (.ref a) X.env.frame) (fun _ s4 => wpAny (model X.prog X.w) X.A (throw (.ref a) : Sem Flow) (SP X pins D) X.xe s4) X.xe { s with heap := h3 } := by
      rw [hf]
      exact HandSPX.setFlight_upZ fl3 fun h4 x4 up4 => wpAny_throw (tk _ _ ⟨a, B, sI, pins, σ, H, cls, d, rfl, J, nb, up3.trans up4, .inr (.inr (by rw [hs]; exact x4)), na, os, ag, w⟩)
    first
      | exact wpAny_bind (wpAny_pure (wpAny_bind fin))
      | exact wpAny_bind fin
  | @cons x c ts b0 bs p q hds' l' nm su r ih =>
    intro w
    obtain ⟨b, hb, yes, no⟩ := w
    refine wpAny_handleBy_cons (codeAny_handlers_test ?_) (by intro z; cases z)
    have LM := PySem.W.exm_one (M := model X.prog X.w) J3.kIn LT hb
    have test : ∀ {Q : Value → Shared → Prop} {E : Value → Shared → Prop}, Q c { s with heap := h3 } → wpAny (model X.prog X.w) (X.A.mark (some (.ref a))) (eval (.Name x p) X.env) Q E { s with heap := h3 } := fun {Q E} z => by
      obtain ⟨hg, hg2, hm | ⟨hm, hv, hnn⟩⟩ := nm
      · exact ld_glob (X := X.suite a ((a, oe) :: (X.pn ++ pins))) S3 hg hm z hg2
      · exact ld_blt (X := X.suite a ((a, oe) :: (X.pn ++ pins))) S3 hg hm hv z hnn hg2
    refine test (LM.here ?_)
    cases b with
    | false => exact ih (no rfl)
    | true =>
      refine codeAny_handlers_suite_as (HandSPX.lands_againZ fl3 fun h4 fl4 up4 => ?_)
      have J4 : Inv X pins σ H { s with heap := h4 } := J.landed nb fl4.1 (up3.trans up4) os ag
      obtain ⟨oe4, vs4, he4, hz4, hd4⟩ := fl4.there
      refine store_ok (X := X.suite a ((a, oe4) :: (X.pn ++ pins))) (v := .ref a) (J4.suite he4 hd4 na nL nF) hN hi (.inl hl) rfl (fun s5 S5 => ?_) (.inr hl)
      refine wpAny_mono ((su a oe4 cls d (X.pn ++ pins) hz4 ⟨_, hd4⟩).run [] s5 _ H _ S5 (yes rfl a na hlt)) (fun fl s6 z => ?_) (fun _ _ z => False.elim z)
      have off : ∀ {σ6 : L2.St} {H6 : Hp} {Q : Shared → Prop}, Inv (X.suite a ((a, oe4) :: (X.pn ++ pins))) [] σ6 H6 s6 → (∀ s7, Inv X pins (σ6.set i none) H6 s7 → Q s7) →
          wpAny (model X.prog X.w) X.A (do bindName X.env n .none; unbindBehindTheSuite X.env n q) (fun _ s7 => Q s7) X.xe s6 := fun {σ6 H6 Q} S6 k => gone_ok (S6.unsuite ok) hN hi hl k
      cases fl with
      | next =>
        obtain ⟨σ6, H6, S6, k⟩ := z
        exact off S6 fun s7 J7 => ⟨_, _, J7, k⟩
      | brk =>
        obtain ⟨σ6, H6, S6, k⟩ := z
        exact off S6 fun s7 J7 => ⟨_, _, J7, k⟩
      | cont =>
        obtain ⟨σ6, H6, S6, k⟩ := z
        exact off S6 fun s7 J7 => ⟨_, _, J7, k⟩
      | ret u =>
        obtain ⟨v6, σ6, H6, S6, r6, k⟩ := z
        exact off S6 fun s7 J7 => ⟨_, _, _, J7, r6, k⟩
theorem ps_try_named {h0 : ExceptHandler} {hds : List ExceptHandler} {l : List (Value × Suite)} (hs : X.stack = X.env :: X.outer) (hf : X.env.frame = some X.env.locals) (hN : X.N.Nodup) (hi : X.N[i]? = some n) (hl : X.env.kindOf n = some .local) (tk : L2.Takes X Wout)
    (hb : ∀ (W : WX) (pn : List (Addr × Obj)) (xe : Value → Shared → Prop), L2.Takes (X.tr pn xe) W → PassesOwn (model X.prog X.w) X.A X.env xe → PSs (X.tr pn xe) body (tb W))
    (C : Clauses X n (h0 :: hds) l) : PS X (.Try body (h0 :: hds) [] [] pos) (fun D σ H => tb (wNamed X.K i Wout D l) D σ H) := by
  refine ⟨fun pins s σ H D I h => ?_⟩
  have ok := I.ok
  have hfr : X.A.frames = some (X.env :: X.outer) := by rw [ok.frames, hs]
  refine wpAny_Try_except (wpAny_mono ((hb (wNamed X.K i Wout D l) (X.pn ++ pins) (fun e s₁ => wpAny (model X.prog X.w) X.A (noteFrame e X.env) (fun _ s₂ => wpAny (model X.prog X.w) X.A (setFlight e none) (fun _ s₃ =>
    wpAny (model X.prog X.w) X.A (handleBy e X.env (h0 :: hds)) (SP X pins D) X.xe s₃) X.xe s₂) X.xe s₁) (fun u s' xx => ?_) PassesOwn.looking).run [] s σ H D (I.toTry _) h) (fun f s1 z => ?_) (fun e s1 z => z))
  · obtain ⟨a, B, sI, pins', σ', H', cls, d, rfl, J', nb, up, sky, na, os, ag, w⟩ := xx
    refine Sky.land Zc.steady hfr hf (by rw [← hs]; exact sky) fun h3 fl3 up3 => ?_
    exact clauses_go hs hf hN hi hl tk ok (J'.ofTry ok) nb os ag na fl3 (up.trans up3) C w
  · cases f with
    | next =>
      obtain ⟨σ', H', J', q⟩ := z
      exact wpAny_execs_nil ⟨σ', H', J'.ofTry ok, q⟩
    | brk =>
      obtain ⟨σ', H', J', q⟩ := z
      exact ⟨σ', H', J'.ofTry ok, q⟩
    | cont =>
      obtain ⟨σ', H', J', q⟩ := z
      exact ⟨σ', H', J'.ofTry ok, q⟩
    | ret u =>
      obtain ⟨v, σ', H', J', r, q⟩ := z
      exact ⟨v, σ', H', J'.ofTry ok, r, q⟩
end
/-! ### the source of draws -/
def BoxAt (H : Hp) (b : Addr) : Prop := ∃ g m n : Int, H b = some (.lst [.int g, .int m, .int n])
theorem BoxAt.same {H H' : Hp} {b : Addr} (h : BoxAt H b) (s : Same H H') : BoxAt H' b := by
  obtain ⟨g, m, n, e⟩ := h
  exact ⟨g, m, n, s _ _ e⟩
/-- all but the source stays -/
def Keep (b : Addr) (H H' : Hp) : Prop := ∀ a o, H a = some o → a ≠ b → H' a = some o
theorem Keep.refl (b : Addr) (H : Hp) : Keep b H H := fun _ _ e _ => e
theorem Keep.trans {b : Addr} {H H1 H2 : Hp} (x : Keep b H H1) (y : Keep b H1 H2) : Keep b H H2 := fun a o e n => y a o (x a o e n) n
theorem Keep.of {b : Addr} {H H' : Hp} (s : Same H H') : Keep b H H' := fun a o e _ => s a o e
theorem Keep.at_ {b : Addr} {H : Hp} {o : HO} : Keep b H (upd H b o) := fun a x e n => by rw [upd_ne n]; exact e
theorem BoxAt.ne_of {H : Hp} {b p : Addr} (h : BoxAt H b) (n : H p = none) : p ≠ b := by
  obtain ⟨g, m, k, e⟩ := h
  exact (ne_of_none e n).symm
theorem BoxAt.ne_tup {H : Hp} {b p : Addr} {xs : List V} (h : BoxAt H b) (n : H p = some (.tup xs)) : p ≠ b := by
  obtain ⟨g, m, k, e⟩ := h
  exact Own.ne_of n e (by intro z; cases z)
theorem Keep.seq {K : PySem.W.Frag} {b a : Addr} {H H' : Hp} {xs : List V} (k : Keep b H H') (ne : a ≠ b) (h : SqL K H a xs) : SqL K H' a xs := by
  rcases h with (h | ⟨o, h⟩) | h
  · exact .inl (.inl (k _ _ h ne))
  · exact .inl (.inr ⟨o, k _ _ h ne⟩)
  · exact .inr h
/-- a def whose code object stands at c -/
structure FunC (K : PySem.W.Frag) (x qual : Str) (st : Stmt) (f : Addr) (fd : FuncData) (c : Addr) : Prop where
  ex : ∃ (oc : Value) (od : Option Addr) (kV doc pm : Value) (an : Option Addr) (ct : Value) (osl : Array (Option Value)),
    fd = PySem.W.fnOf x qual (defArgs st) (defBody st) (defScope st) .none kV doc pm an (.ref c) ct ∧ K.lookup f = some ⟨oc, od, .func fd, osl⟩ ∧ PySem.W.codeIn K (.ref c) qual = true
section
variable {P : Program} {w : World} {K : PySem.W.Frag} {mg : Str → Option Value} {base : Heap}
theorem FunC.ok {x qual : Str} {st : Stmt} {f c : Addr} {fd : FuncData} {N ps : List Str} {k : Nat} {sp : Sp} (F : FunC K x qual st f fd c) (S : FnScope N ps (defScope st)) (len : ∀ vs H Q E, sp vs H Q E → vs.length = ps.length)
    (hbody : ∀ (A : Around) (outer : List Env) (s : Shared) (H : Hp) (vs : List V) (Q : VK) (E : XK), Room k (A.deeper (envOfC qual (defScope st) s.heap.objs.size f (.ref c))) → sp vs H Q E →
      ∃ t, PSs (cxOf CX0 P w K mg base N qual (defScope st) f (.ref c) A outer s H E).nox (defBody st) t ∧ t { nx := fun _ H' => Q .non H', rt := Q } (L2.start N vs) H) : FnOk P w K mg base CX0 (k + 1) f fd ps sp := by
  obtain ⟨oc, od, kV, doc, pm, an, ct, osl, rfl, lk, hcd⟩ := F.ex
  refine fn_of lk hcd S len fun A outer s H vs Q E hr hsp => ?_
  obtain ⟨t, h, q⟩ := hbody A outer s H vs Q E hr hsp
  exact ⟨t, h.nox, q⟩
end
/-! ### the tables stay tables -/
def KeepN (b : Addr) (H H' : Hp) : Prop := ∀ a o, H a = some o → a ≠ b → (∀ ps, o ≠ .tbl ps) → H' a = some o
theorem KeepN.of_keep {b : Addr} {H H' : Hp} (k : Keep b H H') : KeepN b H H' := fun a o e n _ => k a o e n
theorem KeepN.of_ext {b : Addr} {H H' : Hp} (k : LamX.ExtN H H') : KeepN b H H' := fun a o e _ n => k a o e n
theorem KeepN.trans {b : Addr} {H H1 H2 : Hp} (x : KeepN b H H1) (y : KeepN b H1 H2) : KeepN b H H2 := fun a o e n m => y a o (x a o e n m) n m
theorem ext_of {H H' : Hp} (s : Same H H') : LamX.ExtN H H' := LamX.ExtN.of s
theorem ext_at {H0 H : Hp} {D : Addr} {o : HO} (s : LamX.ExtN H0 H) (n : H D = none) : LamX.ExtN H0 (upd H D o) := s.trans (ext_of (same_upd n))
theorem codeO_lst {c : Addr} {q : Str} {xs : List V} : LamX.CodeO c q ≠ .lst xs := fun z => by
  unfold LamX.CodeO at z
  cases z
theorem BoxAt.ext {H H' : Hp} {b : Addr} (h : BoxAt H b) (s : LamX.ExtN H H') : BoxAt H' b := by
  obtain ⟨g, m, n, e⟩ := h
  exact ⟨g, m, n, s _ _ e (fun ps z => by cases z)⟩
theorem tabs_keep {T : List (Addr × Str)} {b : Addr} {H H' : Hp} (t : LamX.Tabs T H) (x : BoxAt H b) (k : Keep b H H') : LamX.Tabs T H' := fun p hp => by
  obtain ⟨ps, h1, h2, h3⟩ := t p hp
  obtain ⟨g, m, n, e⟩ := x
  refine ⟨ps, k _ _ h1 (Own.ne_of h1 e (by intro z; cases z)), h2, fun pos cv hc => ?_⟩
  obtain ⟨c, e1, e2⟩ := h3 pos cv hc
  exact ⟨c, e1, k _ _ e2 (Own.ne_of e2 e codeO_lst)⟩
/-- new, as far as it is no table -/
def FreeN (H : Hp) (l : Addr) : Prop := ∀ o, H l = some o → ∃ ps, o = .tbl ps
theorem freeN_of {H H' : Hp} {l : Addr} (x : LamX.ExtN H H') (n : H' l = none) : FreeN H l := fun o e => by
  refine Classical.byContradiction fun h => ?_
  rw [x _ _ e (fun ps z => h ⟨ps, z⟩)] at n
  cases n
theorem ext_put {H H' : Hp} {l : Addr} {o : HO} (x : LamX.ExtN H H') (n : FreeN H l) : LamX.ExtN H (upd H' l o) := fun b u e h => by
  by_cases hb : b = l
  · subst hb
    obtain ⟨ps, z⟩ := n u e
    exact absurd z (h ps)
  · rw [upd_ne hb]; exact x _ _ e h
theorem tabs_put {T : List (Addr × Str)} {l : Addr} {H : Hp} {xs : List V} {o : HO} (t : LamX.Tabs T H) (e : H l = some (.lst xs)) : LamX.Tabs T (upd H l o) := fun p hp => by
  obtain ⟨ps, h1, h2, h3⟩ := t p hp
  refine ⟨ps, by rw [upd_ne (Own.ne_of h1 e (by intro z; cases z))]; exact h1, h2, fun pos cv hc => ?_⟩
  obtain ⟨c, e1, e2⟩ := h3 pos cv hc
  exact ⟨c, e1, by rw [upd_ne (Own.ne_of e2 e codeO_lst)]; exact e2⟩
theorem len1 {a : V} : [a].length ≤ sizeLine := by
  rw [sizeLine_eq]
  exact (by decide : 1 ≤ 16777216)
theorem len2 {a b : V} : [a, b].length ≤ sizeLine := by
  rw [sizeLine_eq]
  exact (by decide : 2 ≤ 16777216)
theorem len3 {a b c : V} : [a, b, c].length ≤ sizeLine := by
  rw [sizeLine_eq]
  exact (by decide : 3 ≤ 16777216)
theorem len4 {a b c d : V} : [a, b, c, d].length ≤ sizeLine := by
  rw [sizeLine_eq]
  exact (by decide : 4 ≤ 16777216)
theorem len5 {a b c d e : V} : [a, b, c, d, e].length ≤ sizeLine := by
  rw [sizeLine_eq]
  exact (by decide : 5 ≤ 16777216)
theorem len6 {a b c d e f : V} : [a, b, c, d, e, f].length ≤ sizeLine := by
  rw [sizeLine_eq]
  exact (by decide : 6 ≤ 16777216)
theorem nil_ok : ([] : List V).length ≤ sizeLine := Nat.zero_le _
theorem TyOf.same {K : PySem.W.Frag} {H H' : Hp} {x : V} {t : Value} (h : TyOf K H x t) (s : Same H H') : TyOf K H' x t := by
  cases h with
  | non => exact .non
  | bl b => exact .bl b
  | int i => exact .int i
  | str y => exact .str y
  | flt y => exact .flt y
  | lst e => exact .lst (s _ _ e)
  | frz e => exact .frz (s _ _ e)
  | tup e => exact .tup (s _ _ e)
  | dK e => exact .dK (s _ _ e)
  | dT e => exact .dT (s _ _ e)
  | ins e cl ha hn htk hm => exact .ins (s _ _ e) cl ha hn htk hm
theorem TyX.same {K : PySem.W.Frag} {H H' : Hp} {x : V} {t : Value} (h : TyX K H x t) (s : Same H H') : TyX K H' x t := by
  cases h with
  | base h => exact .base (TyOf.same h s)
  | byt b => exact .byt b
  | set e => exact .set (s _ _ e)
  | kList e c => exact .kList e c
  | kTuple e c => exact .kTuple e c
  | kDict e c => exact .kDict e c
  | fTuple e => exact .fTuple (s _ _ e)
  | fDict e => exact .fDict (s _ _ e)
theorem TyE.same {K : PySem.W.Frag} {H H' : Hp} {x : V} {t : Value} (h : TyE K H x t) (s : Same H H') : TyE K H' x t := by
  cases h with
  | base h => exact .base (TyX.same h s)
  | exc T e f => exact .exc T (s _ _ e) (s _ _ f)
theorem exo_lst {e C : Addr} {d : Option Addr} {xs : List V} : exo e C d ≠ .lst xs := fun z => by
  have z' : HO.ext _ = HO.lst xs := z
  cases z'
theorem exd_lst {e : Addr} {fs : List (Str × V)} {xs : List V} : exd e fs ≠ .lst xs := fun z => by
  have z' : HO.ext _ = HO.lst xs := z
  cases z'
theorem Keep.at_ne {b a : Addr} {H H' : Hp} {o : HO} (k : Keep b H H') (x : BoxAt H b) (e : H a = some o) (n : ∀ xs, o ≠ .lst xs) : H' a = some o := by
  obtain ⟨g, m, y, eb⟩ := x
  exact k _ _ e (Own.ne_of e eb (n _))
theorem TyOf.keep {K : PySem.W.Frag} {b : Addr} {H H' : Hp} {x : V} {t : Value} (h : TyOf K H x t) (hb : BoxAt H b) (hb' : BoxAt H' b) (s : Keep b H H') : TyOf K H' x t := by
  cases h with
  | non => exact .non
  | bl b => exact .bl b
  | int i => exact .int i
  | str y => exact .str y
  | flt y => exact .flt y
  | @lst a xs e =>
    by_cases c : a = b
    · subst c
      obtain ⟨g, m, n, e2⟩ := hb'
      exact .lst e2
    · exact .lst (s _ _ e c)
  | frz e => exact .frz (s.at_ne hb e (fun _ z => by cases z))
  | tup e => exact .tup (s.at_ne hb e (fun _ z => by cases z))
  | dK e => exact .dK (s.at_ne hb e (fun _ z => by cases z))
  | dT e => exact .dT (s.at_ne hb e (fun _ z => by cases z))
  | ins e cl ha hn htk hm => exact .ins (s.at_ne hb e (fun _ z => by cases z)) cl ha hn htk hm
theorem TyX.keep {K : PySem.W.Frag} {b : Addr} {H H' : Hp} {x : V} {t : Value} (h : TyX K H x t) (hb : BoxAt H b) (hb' : BoxAt H' b) (s : Keep b H H') : TyX K H' x t := by
  cases h with
  | base h => exact .base (TyOf.keep h hb hb' s)
  | byt b => exact .byt b
  | set e => exact .set (s.at_ne hb e (fun _ z => by cases z))
  | kList e c => exact .kList e c
  | kTuple e c => exact .kTuple e c
  | kDict e c => exact .kDict e c
  | fTuple e => exact .fTuple (s.at_ne hb e (fun _ z => by cases z))
  | fDict e => exact .fDict (s.at_ne hb e (fun _ z => by cases z))
theorem TyE.keep {K : PySem.W.Frag} {b : Addr} {H H' : Hp} {x : V} {t : Value} (h : TyE K H x t) (hb : BoxAt H b) (hb' : BoxAt H' b) (s : Keep b H H') : TyE K H' x t := by
  cases h with
  | base h => exact .base (TyX.keep h hb hb' s)
  | exc T e f => exact .exc T (s.at_ne hb e (fun _ => exo_lst)) (s.at_ne hb f (fun _ => exd_lst))
theorem seq_ext {K : PySem.W.Frag} {a : Addr} {H H' : Hp} {xs : List V} (x : LamX.ExtN H H') (h : SqL K H a xs) : SqL K H' a xs := by
  rcases h with (h | ⟨o, h⟩) | h
  · exact .inl (.inl (x _ _ h (fun ps z => by cases z)))
  · exact .inl (.inr ⟨o, x _ _ h (fun ps z => by cases z)⟩)
  · exact .inr h
theorem ext_keepN {b : Addr} {H H' : Hp} (k : KeepN b H H') (n : H b = none) : LamX.ExtN H H' := fun a o e m => k a o e (ne_of_none e n) m
theorem u65 {k : Nat} {A : Around} (hr : Room k A) : A.units + 65 < cLine := by have := hr.un; omega
open PySem.W (Frag findIn subIn typeIn keepIn)
open PySem.Calls
theorem sw2 {α : Type} {ws : List α} (h : (sw ws).length = 2) : ∃ a b, ws = [a, b] := by
  match ws, h with
  | [], h => cases h
  | [_], h => cases h
  | [a, b], _ => exact ⟨a, b, rfl⟩
  | _ :: _ :: _ :: _, h => cases h
theorem vals_sw : ∀ {zs : List V} {ws : List Value}, Vals zs ws → Vals (sw zs) (sw ws)
  | _, _, .nil => .nil
  | _, _, .cons _ .nil => .nil
  | _, _, .cons a (.cons b .nil) => .cons b (.cons a .nil)
  | _, _, .cons _ (.cons _ (.cons _ _)) => .nil
section
variable {P : Program} {w : World} {K : Frag} {mg : Str → Option Value} {base : Heap} {x p1 p2 : Str} {st : Stmt} {f : Addr} {fd : FuncData} {k : Nat} {sp : Sp} {CX : CXT}
theorem mkK2 (F : Fun K x x st f fd) (ok : FnOk P w K mg base CX k f fd [p1, p2] sp) (hC : CX = CX0 ∨ CX = L2.CX P w) (g : mg x = some (.ref f))
    (h : ∀ (kV doc pm : Value) (an : Option Addr) (cdv ct : Value) (a b : Value), bindArgs (PySem.W.fnOf x x (defArgs st) (defBody st) (defScope st) .none kV doc pm an cdv ct) ⟨[], [p2, p1].zip [a, b]⟩ = pure ([p1, p2].zip [b, a])) : CalK P w K mg base k x [p2, p1] sw sp := by
  have kp := F.kp
  obtain ⟨oc, od, kV, doc, pm, an, cdv, ct, osl, rfl, lk, hc⟩ := F.ex
  refine ⟨⟨f, _, [p1, p2], sw, CX, hC, ok, g, kp, fun s ws hl => ?_, fun _ _ r => vals_sw r⟩⟩
  obtain ⟨a, b, rfl⟩ := sw2 hl
  exact .of_eq (h kV doc pm an cdv ct a b)
theorem mkK1 (F : Fun K x x st f fd) (ok : FnOk P w K mg base CX k f fd [p1] sp) (hC : CX = CX0 ∨ CX = L2.CX P w) (g : mg x = some (.ref f))
    (h : ∀ (kV doc pm : Value) (an : Option Addr) (cdv ct : Value) (a : Value), bindArgs (PySem.W.fnOf x x (defArgs st) (defBody st) (defScope st) .none kV doc pm an cdv ct) ⟨[], [p1].zip [a]⟩ = pure ([p1].zip [a])) : CalK P w K mg base k x [p1] id sp := by
  have kp := F.kp
  obtain ⟨oc, od, kV, doc, pm, an, cdv, ct, osl, rfl, lk, hc⟩ := F.ex
  refine ⟨⟨f, _, [p1], id, CX, hC, ok, g, kp, fun s ws hl => ?_, fun _ _ r => r⟩⟩
  match ws, hl with
  | [a], _ => exact .of_eq (h kV doc pm an cdv ct a)
end
/-- an own error's class -/
def oexB (K : Frag) (C : Addr) : Bool := (match K.lookup C with
  | some ⟨.type t, _, .cls cd, sl⟩ => decide (t = "type") && (match cd.mro, sl.toList with
    | .ref C' :: bm, [_, _, _, _, some (.builtin n), _] => decide (C' = C) && (decide (n = "ValueError.__new__") && (!cd.hasDel && (cd.hasDict && HandSPX.refsVE bm)))
    | _, _ => false)
  | _ => false) && (He.eqO (findIn K (.ref C) "__setattr__") (some (some (.builtin "object.__setattr__"))) && (decide (subIn K (.ref C) (.type "BaseException") = some true) && (decide (typeIn K (.ref C) = some (.type "type")) && keepIn K (.ref C))))
theorem oexB_ok {K : Frag} {C : Addr} (h : oexB K C = true) : OexC K C := by
  obtain ⟨h1, h⟩ := He.ba h
  obtain ⟨h2, h⟩ := He.ba h
  obtain ⟨h3, h⟩ := He.ba h
  obtain ⟨h4, h5⟩ := He.ba h
  refine ⟨?_, He.eqO_ok h2, of_decide_eq_true h3, of_decide_eq_true h4, h5⟩
  clear h2 h3 h4 h5 h
  cases q : K.lookup C with
  | none => rw [q] at h1; cases h1
  | some o =>
    obtain ⟨oc, dd, dt, sl⟩ := o
    rw [q] at h1
    cases oc with
    | type t =>
      cases dt with
      | cls cd =>
        obtain ⟨nm, bases, mro, ns, qn, hd, sn, sb, ab, col, del⟩ := cd
        obtain ⟨a1, a2⟩ := He.ba h1
        obtain rfl := of_decide_eq_true a1
        clear h1 a1
        cases mro with
        | nil => cases a2
        | cons m bm =>
          cases m with
          | ref C' =>
            obtain ⟨sll⟩ := sl
            match sll, a2 with
            | [k0, k1, k2, k3, some (.builtin n), k5], a2 =>
              obtain ⟨b1, b⟩ := He.ba a2
              obtain ⟨b2, b⟩ := He.ba b
              obtain ⟨b3, b⟩ := He.ba b
              obtain ⟨b4, b5⟩ := He.ba b
              obtain rfl := of_decide_eq_true b1
              obtain rfl := of_decide_eq_true b2
              have e3 : del = false := by simpa using b3
              have e4 : hd = true := b4
              subst e3 e4
              exact ⟨nm, qn, ns, bases, bm, sn, sb, ab, col, dd, k0, k1, k2, k3, k5, rfl, b5⟩
          | _ => cases a2
      | _ => cases h1
    | _ => cases dt <;> cases h1
def clsB (K : Frag) (x : Str) : Bool := oexB K (He.ga K x) && (He.eqO (findIn K (.ref (He.ga K x)) "__init__") (some (some (.ref (He.ma K (He.ga K x) "__init__")))) && (decide (typeIn K (.ref (He.ma K (He.ga K x) "__init__")) = some (.type "function")) && (xfB K (He.ga K x) && He.eqO (findIn K (.ref (He.ga K x)) "word") (some none))))
theorem clsB_ok {K : Frag} {mg : Str → Option Value} {x : Str} (h : clsB K x = true) (g : mg x = some (.ref (He.ga K x))) : ExT K mg x (He.ga K x) (He.ma K (He.ga K x) "__init__") := by
  obtain ⟨h1, h⟩ := He.ba h
  obtain ⟨h2, h⟩ := He.ba h
  obtain ⟨h3, h⟩ := He.ba h
  obtain ⟨h4, h5⟩ := He.ba h
  exact ⟨oexB_ok h1, He.eqO_ok h2, of_decide_eq_true h3, g, xfB_ok h4, He.eqO_ok h5⟩
section
variable {K : Frag}
theorem funOf {x : Str} {st : Stmt} {f : Addr} {fd : FuncData} {qual : Str} (F : FunD K x qual (defArgs st) (defBody st) (defScope st) [] [] f fd) : Fun K x qual st f fd := by
  obtain ⟨oc, od, dV, kV, doc, pm, an, cdv, ct, osl, e, lk, hc, hd, hk⟩ := F.ex
  rcases hd with ⟨_, h⟩ | ⟨h, _⟩
  · subst h
    exact ⟨⟨oc, od, kV, doc, pm, an, cdv, ct, osl, e, lk, hc⟩, F.kp⟩
  · exact absurd rfl h
theorem funCOf {x : Str} {st : Stmt} {p : He.Defn} {fd : FuncData} {qual : Str} (F : Fun K x qual st (He.fAd K p) fd) : FunC K x qual st (He.fAd K p) fd (He.cT K p).1 := by
  obtain ⟨oc, od, kV, doc, pm, an, cdv, ct, osl, e, lk, hc⟩ := F.ex
  obtain ⟨c, rfl⟩ := He.codeIn_ref hc
  have e2 : He.codeOf K p = c := He.codeOf_eq lk (by rw [e])
  have e3 : (He.cT K p).1 = c := e2
  rw [e3]
  exact ⟨⟨oc, od, kV, doc, pm, an, ct, osl, e, lk, hc⟩⟩
end
end Own

/-! Defs that show data by repr: what is under way in C must be known where they are called (A.guards = some []), which the layer's promises leave open. A promise under that premise, its call, repr of data, the law's end. -/
namespace Gd
open PySem PySem.Spec PyProof.Rows L2
theorem deeper_guards {A : Around} {env : Env} (h : A.guards = some []) : (A.deeper env).guards = some [] := h
/-- a def that keeps sp where nothing is under way -/
structure FnG (P : Program) (w : World) (K : PySem.W.Frag) (mg : Str → Option Value) (base : Heap) (CX : CXT) (k : Nat) (f : Addr) (fd : FuncData) (ps : List Str) (sp : Sp) : Prop where
  len : ∀ vs H Q E, sp vs H Q E → vs.length = ps.length
  run : ∀ (A : Around) (outer : List Env) (s : Shared) (H : Hp) (args : Args) (us : List Value) (vs : List V) (Q : VK) (E : XK), A.guards = some [] → Room k A → Env0 P w K mg base A outer s H → BindsTo s fd args (ps.zip us) → Vals vs us → sp vs H Q E →
    codeAny (model P w) A (.call (.ref f) args) (CR CX outer P w H s Q E) s
section
variable {P : Program} {w : World} {K : PySem.W.Frag} {mg : Str → Option Value} {base : Heap}
theorem FnG.mono {CX : CXT} {j k : Nat} {f : Addr} {fd : FuncData} {ps : List Str} {sp : Sp} (F : FnG P w K mg base CX j f fd ps sp) (h : j ≤ k) : FnG P w K mg base CX k f fd ps sp :=
  ⟨F.len, fun A outer s H args us vs Q E g hr => F.run A outer s H args us vs Q E g (hr.mono h)⟩
/-- a def by its body, the guards known within -/
theorem fun_okG {x qual : Str} {st : Stmt} {f : Addr} {fd : FuncData} {N ps : List Str} {k : Nat} {sp : Sp} (F : Fun K x qual st f fd) (S : FnScope N ps (defScope st)) (len : ∀ vs H Q E, sp vs H Q E → vs.length = ps.length)
    (hbody : ∀ (cdv : Value) (A : Around) (outer : List Env) (s : Shared) (H : Hp) (vs : List V) (Q : VK) (E : XK), (A.deeper (envOfC qual (defScope st) s.heap.objs.size f cdv)).guards = some [] → Room k (A.deeper (envOfC qual (defScope st) s.heap.objs.size f cdv)) → sp vs H Q E →
      ∃ t, PSs (cxOf CX0 P w K mg base N qual (defScope st) f cdv A outer s H E).nox (defBody st) t ∧ t { nx := fun _ H' => Q .non H', rt := Q } (L2.start N vs) H) : FnG P w K mg base CX0 (k + 1) f fd ps sp := by
  obtain ⟨oc, od, kV, doc, pm, an, cdv, ct, osl, rfl, lk, hcd⟩ := F.ex
  refine ⟨len, fun A outer s H args us vs Q E g hr e0 hb r hsp => ?_⟩
  refine LamX.run_ofS lk hcd S hr e0 hb r (len _ _ _ _ hsp) fun hr' => ?_
  obtain ⟨t, h, q⟩ := hbody cdv A outer s H vs Q E (deeper_guards g) hr' hsp
  exact ⟨t, h.nox, q⟩
/-- such a def by its name -/
structure CalG (P : Program) (w : World) (K : PySem.W.Frag) (mg : Str → Option Value) (base : Heap) (k : Nat) (x : Str) (sp : Sp) : Prop where
  ex : ∃ (f : Addr) (fd : FuncData) (ps : List Str), FnG P w K mg base CX0 k f fd ps sp ∧ mg x = some (.ref f) ∧ PySem.W.keepIn K (.ref f) = true ∧ Binds K fd ps []
end
section
variable {X : Cx} {k j : Nat} {x : Str} {sp : Sp} {e : Expr} {es : List Expr} {t : TA} {p pos : Pos}
theorem pe_cG (hgd : X.A.guards = some []) (c : CalG X.prog X.w X.K X.mg X.base k x sp) (hr : Room j X.A) (hk : k ≤ j) (hg : Gl X x) (ha : PA X (e :: es) t)
    (hdb : (x == ("__debug__" : Str)) = false := by decide) (he : starEach (e :: es) X.env = (false, eval e X.env) :: starEach es X.env := by rfl) (hpl : (backTo pos (starEach es X.env)).any (·.1) = false := by rfl) :
    PE X (.Call (.Name x p) (e :: es) [] pos) (tCall sp [] L2.E0 t) := by
  obtain ⟨f, fd, ps, F, hm, kp, b⟩ := c.ex
  refine ⟨fun pins s σ H Q I h => ?_⟩
  refine wpAny_Call_Name_kw (ld_glob I hg hm ?_ hdb)
  refine PySem.W.callWith_K (h₀ := X.base) I.ok.mod.kin kp (thn (ha.run pos pins s σ H _ I h) fun us s1 hz => ?_) he hpl
  obtain ⟨vs, H1, I1, r, q⟩ := hz
  have q : sp (vs ++ []) H1 Q L2.E0 := q
  rw [List.append_nil] at q
  have hl : us.length = ps.length := r.length.symm.trans (F.len _ _ _ _ q)
  refine ⟨I1.kIn, wpAny_call (codeAny_mono ((F.mono hk).run X.A X.stack s1 H1 ⟨us, []⟩ us vs Q L2.E0 hgd hr I1.env0 ?_ r q) fun r3 s3 hq => ?_)⟩
  · have := b s1 us I1.kIn (by rw [List.append_nil]; exact hl)
    rw [List.append_nil] at this
    exact this
  · cases r3 with
    | error e => exact (show False from hq).elim
    | ok fl =>
      cases fl with
      | ret u => exact I1.after hq
      | next => exact hq.elim
      | brk => exact hq.elim
      | cont => exact hq.elim
/-- repr of a tuple, a list of data -/
def rShow (K : PySem.W.Frag) : List V → Hp → VK → Prop := fun xs H Q => ∃ (a : Addr) (d : PyData), xs = [.ref a] ∧ Dp K H (.ref a) d ∧ d.showable = true ∧ d.hasDict = false ∧ d.depth ≤ 60 ∧ d.shown.length ≤ sizeLine ∧ Q (.str d.shown) H
theorem call_show (hgd : X.A.guards = some []) (hu : X.A.units + 64 < cLine) : CallR X (.builtin "repr") (rShow X.K) := by
  intro pins s σ H xs us Q I r h
  obtain ⟨a, d, rfl, hd, hs, hn, hp, hz, q⟩ := h
  obtain ⟨u, rfl, r1⟩ := vals1 r
  cases (show u = Value.ref a from r1)
  obtain ⟨as, rd⟩ := Dp.reads I d (.ref a) (.ref a) hd rfl
  refine repr_of_reads' rd hs (fun e => by rw [hn] at e; cases e) hgd (by omega) (fun _ _ e => e) (fun h' u tk hk => ?_) hz
  exact ⟨.str d.shown, H, I.kept (t' := tk) hk, ⟨u, rfl⟩, q⟩
end
end Gd

/-! enumerate of a tuple, a loop over a list or a tuple, math.lcm. -/
namespace Gd
open PySem PySem.Spec PyProof.Rows L2
/-- the new enumerate object over what v begins as -/
abbrev enO (h : Heap) : Obj := { cls := .type "enumerate", data := .fields #[.none, .bool false, .ref h.objs.size, rawInt 0, .none, .none] }
theorem enB_new {v : Value} {o : Obj} {H : Heap → Prop} (B : Begins v o H) :
    Meets (Builtin.«enumerate.__new__» ⟨[.type "enumerate", v], []⟩) (fun _ R s => H s.heap ∧ R (.ok (.ret (.ref (s.heap.push o).objs.size))) { s with heap := (s.heap.push o).push (enO s.heap) }) :=
  .of_wp fun P W A R s z => by
    obtain ⟨hp, g, d, tk, os⟩ := s
    obtain ⟨hB, q⟩ := z
    have sb := sub_enumerate
    have begin : ∀ {A2 : Around} {E : Value → Shared → Prop} {Q : Value → Shared → Prop}, Q (.ref hp.objs.size) ⟨hp.push o, g, d, tk, os⟩ → wpAny (model P W) A2 (pyIter v) Q E ⟨hp, g, d, tk, os⟩ :=
      fun y => B.iter P W _ _ ⟨hp, g, d, tk, os⟩ _ hB y
    wp_walk using begin
    refine wpAny_stack_any fun stk => wpAny_pure ?_
    split
    all_goals first
      | (wp_walk using begin; exact ⟨_, rfl, q⟩)
      | (rename_i c _ _ _ _ _
         cases (c == Value.type "enumerate") <;> (wp_walk using begin; exact ⟨_, rfl, q⟩))
theorem call_enB {P : Program} {w : World} {A : Around} {E : Value → Shared → Prop} {s : Shared} {v : Value} {o : Obj} {H : Heap → Prop} {Q : Value → Shared → Prop} (B : Begins v o H) (hB : H s.heap)
    (q : ∀ h', IsEnum h' (s.heap.objs.size + 1) s.heap.objs.size 0 .none → h'.get? s.heap.objs.size = some o → (∀ b x, s.heap.get? b = some x → h'.get? b = some x) → Q (.ref (s.heap.objs.size + 1)) { s with heap := h' }) :
    wpAny (model P w) A (call (.type "enumerate") [v]) Q E s := by
  refine callType_new F.called_enumerate (by decide) (F.typeCall_enumerate_1 _) (F.newCall_enumerate_1 _) (fun obj => F.args_object_init_2 obj _) F.entry_enumerate_new (enB_new B) ⟨hB, ?_⟩
  have sz : (s.heap.push o).objs.size = s.heap.objs.size + 1 := Heap.size_push ..
  have isE : IsEnum ((s.heap.push o).push (enO s.heap)) (s.heap.push o).objs.size s.heap.objs.size 0 .none := Heap.get?_push_size _ rfl
  have q2 := q ((s.heap.push o).push (enO s.heap)) (by rw [← sz]; exact isE) (Heap.get?_push_of_some _ (Heap.get?_push_size _ B.free)) fun b x e => Heap.get?_push_of_some _ (Heap.get?_push_of_some _ e)
  rw [← sz] at q2
  exact ⟨⟨_, isE, rfl⟩, q2⟩
/-- the tuple at a as it stands at each turn, each item in a new pair -/
def ItE (K : PySem.W.Frag) (a : Addr) : It :=
  ⟨fun i H => ∃ (xs : List V) (x : V), SqT K H a xs ∧ xs[i]? = some x, fun i H v H' => ∃ T x, v = .ref T ∧ H T = none ∧ H' = upd H T (.tup [.int (i : Nat), x]) ∧ ∀ xs, SqT K H a xs → xs[i]? = some x, fun i H => ∃ xs : List V, SqT K H a xs ∧ xs.length = i⟩
theorem turn_enT {P : Program} {w : World} {K : PySem.W.Frag} {elts : List Expr} {kk : Nat} {tpos : Pos} (a e it : Addr) :
    Turn P w K (.Tuple elts kk tpos) (ItE K a) [e, it] e (fun i h => (∃ old, IsEnum h e it ((i : Nat) : Int) old) ∧ h.IsTupleIter it a i ∧ e ≠ it) where
  mem := List.mem_cons_self ..
  obj := fun i h st b hb => by
    obtain ⟨⟨old, hE⟩, ⟨o, ho, hc, hd⟩, _⟩ := st
    rcases List.mem_cons.mp hb with rfl | hb
    · exact ⟨_, hE, fun v q => nomatch q⟩
    · obtain rfl := List.mem_singleton.mp hb
      exact ⟨o, ho, fun v q => by rw [hd] at q; cases q⟩
  keep := fun i h h' st k => by
    obtain ⟨⟨old, hE⟩, hI, ne⟩ := st
    exact ⟨⟨old, k _ (List.mem_cons_self ..) _ hE⟩, hI.at fun o q => k _ (List.mem_cons_of_mem _ (List.mem_cons_self ..)) o q, ne⟩
  item := by
    intro X hP hw hK hc i pins s σ H E I fps st gg
    subst hP hw hK
    obtain ⟨⟨old, hE⟩, hI, ne⟩ := st
    obtain ⟨xs, x, hq, hx⟩ := gg
    obtain ⟨its, rv, pT, hz⟩ := I.tuple hq
    have pT : s.heap.IsTuple a its.toArray := pT
    obtain ⟨u, hu, ru⟩ := rv.get hx
    have ln := rv.length
    have li : i < its.length := by
      rw [← ln]
      exact (List.getElem?_eq_some_iff.mp hx).1
    obtain ⟨oa, ea, ca, na, da⟩ := id pT
    obtain ⟨oi, ei, ci, di⟩ := id hI
    have ae : e ≠ a := fun z => by
      have y : s.heap.get? a = some _ := z ▸ hE
      rw [ea] at y
      cases y
      cases da
    have ai : a ≠ it := fun z => by
      rw [z, ei] at ea
      cases ea
      rw [di] at da
      cases da
    have D := Draws.tuple (prog := X.prog) (w := X.w) (A := X.A.in1) (I.ok.hd hc) it a ai its.toArray
    have le : e < s.heap.objs.size := Heap.lt_size hE
    have lt : it < s.heap.objs.size := Heap.lt_size ei
    refine wpAny_pyNext_enum_itemD D hE ⟨hI, pT⟩ (by simpa using li) ne (by simp only [List.mem_cons, List.not_mem_nil, or_false, not_or]; exact ⟨ne, ae⟩) fun y h1 tk hy out st1 new _ kp => ?_
    obtain rfl : u = y := Option.some.inj ((by simpa using hu : its.toArray[i]? = some u).symm.trans hy)
    refine ⟨_, rfl, wpAny_letOwnedTupleGo_enum (s := { s with heap := h1, toks := tk + 1 }) out fun h2 in2 sb => ?_⟩
    have new2 : h2.get? s.heap.objs.size = some { cls := .type "tuple", data := .seq #[.int i tk, u] } := (sb.2 _ (Nat.ne_of_gt le)).trans new
    have fresh := I.hok.fresh (Nat.le_refl s.heap.objs.size)
    have pair : ObjOk X.prog X.w (upd H s.heap.objs.size (.tup [.int (i : Nat), x])) h2 s.heap.objs.size (.tup [.int (i : Nat), x]) :=
      ⟨show 2 ≤ sizeLine by decide, [.int i tk, u], .cons ⟨_, rfl⟩ (.cons ru .nil), ⟨_, new2, rfl, _, rfl⟩⟩
    have I2 : Inv X pins σ (upd H s.heap.objs.size (.tup [.int (i : Nat), x])) { s with heap := h2, toks := tk + 1 } :=
      I.turnedNew (ch := [e, it]) (fun b ob nb q => by
        have n1 : b ≠ e := fun z => nb (z ▸ List.mem_cons_self ..)
        have n2 : b ≠ it := fun z => nb (z ▸ List.mem_cons_of_mem _ (List.mem_cons_self ..))
        exact (sb.2 b n1).trans (kp b ob n1 n2 q)) fps (Nat.le_refl _) pair
    refine ⟨.ref s.heap.objs.size, _, I2, rfl, ⟨_, x, rfl, fresh, rfl, fun ys hy => by rw [I.tuple_inj hy hq]; exact hx⟩, ⟨⟨u, by rw [Int.natCast_succ]; exact in2⟩, st1.1.at fun o q => (sb.2 it (Ne.symm ne)).trans q, ne⟩, fun b hb => ?_⟩
    have lb : b < s.heap.objs.size := by
      rcases List.mem_cons.mp hb with rfl | h
      · exact le
      · rw [List.mem_singleton.mp h]; exact lt
    rw [upd_ne (Nat.ne_of_lt lb)]
    exact (fps b hb).1
  done := by
    intro X hP hw hK hc i pins s σ H E I fps st gg
    subst hP hw hK
    obtain ⟨⟨old, hE⟩, hI, ne⟩ := st
    obtain ⟨xs, hq, hx⟩ := gg
    obtain ⟨its, rv, pT, hz⟩ := I.tuple hq
    have pT : s.heap.IsTuple a its.toArray := pT
    obtain ⟨oa, ea, ca, na, da⟩ := id pT
    obtain ⟨oi, ei, ci, di⟩ := id hI
    have ai : a ≠ it := fun z => by
      rw [z, ei] at ea
      cases ea
      rw [di] at da
      cases da
    have D := Draws.tuple (prog := X.prog) (w := X.w) (A := X.A.in1) (I.ok.hd hc) it a ai its.toArray
    have ln := rv.length
    have en : i = its.toArray.size := by rw [List.size_toArray, ← ln, hx]
    obtain ⟨f0, f1, f2, f3, f4, f5⟩ := fps it (List.mem_cons_of_mem _ (List.mem_cons_self ..))
    exact wpAny_pyNext_enum_endD D hE ⟨en ▸ hI, pT⟩ fun h1 eb => ⟨rfl, I.turned (t' := s.toks) (fun b o hb q => eb b o hb q) f0 f1 f3 f4 f5⟩
  self := fun A i s Q E st h => let ⟨⟨_, hE⟩, _⟩ := st; wpAny_pyIter_enum hE h
def iEnT (K : PySem.W.Frag) (ta : TA) : TI := fun σ H R => ta σ H fun vs H1 => ∃ a xs, vs = [.ref a] ∧ SqT K H1 a xs ∧ R (ItE K a) H1
theorem pi_enT {X : Cx} {e : Expr} {ta : TA} {p pos tpos : Pos} {elts : List Expr} {kk : Nat} (hg : Gl X "enumerate") (hm : X.mg "enumerate" = none) (ha : PA X [e] ta) (hs : starEach [e] X.env = [(false, eval e X.env)] := by rfl) :
    PI X (.Tuple elts kk tpos) (.Call (.Name "enumerate" p) [e] [] pos) (iEnT X.K ta) := by
  refine ⟨fun pins s σ H R I h => ?_⟩
  refine Call_ (ld_blt I hg hm boot_enumerate (PyProof.Rows.callWith_type1 (thn (ha.run pos pins s σ H _ I h) fun us s1 ⟨vs, H1, I1, r1, a, xs, ev, hq, q⟩ => ?_) hs rfl))
  subst ev
  obtain ⟨u, rfl, r⟩ := vals1 r1
  cases r
  obtain ⟨its, rv, pT, hz⟩ := I1.tuple hq
  have pT : s1.heap.IsTuple a its.toArray := pT
  refine call_enB (begins_tuple a its.toArray) pT fun h1 isE itO kp => wpAny_pyIter_enum isE ?_
  refine ⟨s1.heap.objs.size + 1, [s1.heap.objs.size + 1, s1.heap.objs.size], _, _, H1, rfl, I1.kept (t' := s1.toks) kp, turn_enT a _ _, ⟨⟨.none, isE⟩, ⟨_, itO, rfl, rfl⟩, Nat.succ_ne_self _⟩, fun b hb => ?_, q⟩
  have le : s1.heap.objs.size ≤ b := by
    rcases List.mem_cons.mp hb with rfl | h
    · exact Nat.le_succ _
    · rw [List.mem_singleton.mp h]; exact Nat.le_refl _
  exact I1.fpOk le (I1.hok.fresh le)
/-- such a loop, by one word a turn -/
theorem for_enT {K : PySem.W.Frag} {a : Addr} {xs : List V} {g : TG} {tb : TS} {D : Ends} {σ : L2.St} {H : Hp} (Pv : Nat → L2.St → Hp → Prop) (h0 : Pv 0 σ H) (hq : ∀ i σ H, Pv i σ H → SqT K H a xs)
    (hs : ∀ (i : Nat) (x : V) (T : Addr) (σ : L2.St) (H : Hp), xs[i]? = some x → Pv i σ H → H T = none → g (.ref T) σ (upd H T (.tup [.int (i : Nat), x])) fun σ2 H2 => tb { D with nx := Pv (i + 1), ct := Pv (i + 1), bk := D.nx } σ2 H2) (hd : ∀ σ H, Pv xs.length σ H → D.nx σ H) :
    ∃ W : Nat → Nat → L2.St → Hp → Prop, (∃ m, W 0 m σ H) ∧ ∀ i m σ H, W i m σ H →
      ((ItE K a).stop i H ∧ D.nx σ H) ∨ ((ItE K a).go i H ∧ ∃ N : L2.St → Hp → Prop, (∀ σ' H', N σ' H' → ∃ m', m' < m ∧ W (i + 1) m' σ' H') ∧ ∀ v H', (ItE K a).yld i H v H' → g v σ H' fun σ2 H2 => tb { D with nx := N, ct := N, bk := D.nx } σ2 H2) := by
  refine ⟨fun i m σ H => m = xs.length - i ∧ i ≤ xs.length ∧ Pv i σ H, ⟨xs.length, rfl, Nat.zero_le _, h0⟩, fun i m σ H ⟨em, le, p⟩ => ?_⟩
  subst em
  have q := hq i σ H p
  by_cases lt : i < xs.length
  · refine .inr ⟨⟨xs, _, q, List.getElem?_eq_getElem lt⟩, Pv (i + 1), fun σ' H' p' => ⟨_, by omega, rfl, lt, p'⟩, fun v H' y => ?_⟩
    obtain ⟨T, x, rfl, nT, rfl, f⟩ := y
    exact hs i x T σ H (f xs q) p nT
  · obtain rfl : i = xs.length := by omega
    exact .inl ⟨⟨xs, q, rfl⟩, hd σ H p⟩
/-- a loop over a list or a tuple -/
def iSeq (K : PySem.W.Frag) (tl : TE) : TI := fun σ H R => tl σ H fun x H1 => ∃ a, x = .ref a ∧ (((∃ xs, SqL K H1 a xs) ∧ R (Itl K a) H1) ∨ ((∃ xs, SqT K H1 a xs) ∧ R (Itt K a) H1))
theorem pi_seq {X : Cx} {tg l : Expr} {tl : TE} (hl : PE X l tl) : PI X tg l (iSeq X.K tl) := by
  refine ⟨fun pins s σ H R I h => ?_⟩
  refine thn (hl.run pins s σ H _ I h) fun v s1 ⟨x, H1, I1, r1, a, e, q1⟩ => ?_
  subst e
  cases r1
  have fp : ∀ b ∈ [s1.heap.objs.size], FpOk X pins H1 b := fun b hb => by
    rw [List.mem_singleton.mp hb]
    exact I1.fpOk (Nat.le_refl _) (I1.hok.fresh (Nat.le_refl _))
  rcases q1 with ⟨⟨xs, hq⟩, q⟩ | ⟨⟨xs, hq⟩, q⟩
  · obtain ⟨its, rv, pl, hz⟩ := I1.list hq
    exact wpAny_pyIter_list pl.isList ⟨_, _, _, _, H1, rfl, I1.kept (t' := s1.toks) fun b o y => Heap.get?_push_of_some _ y, turn_list a _, ⟨_, Heap.get?_push_size _ rfl, rfl, rfl⟩, fp, q⟩
  · obtain ⟨its, rv, pl, hz⟩ := I1.tuple hq
    exact wpAny_pyIter_tuple (show s1.heap.IsTuple a its.toArray from pl) ⟨_, _, _, _, H1, rfl, I1.kept (t' := s1.toks) fun b o y => Heap.get?_push_of_some _ y, turn_tuple a _, ⟨_, Heap.get?_push_size _ rfl, rfl, rfl⟩, fp, q⟩
def rLcm : List V → Hp → VK → Prop := fun vs H Q => ∃ a b : Int, vs = [.int a, .int b] ∧ a.natAbs < 2 ^ 64 ∧ b.natAbs < 2 ^ 64 ∧ Q (.int ((Nat.lcm a.natAbs b.natAbs : Nat) : Int)) H
theorem cr_lcm {X : Cx} : CallR X (.builtin "math.lcm") rLcm := by
  intro pins s σ H vs us Q I r h
  obtain ⟨a, b, rfl, ha, hb, q⟩ := h
  obtain ⟨t, u, rfl⟩ := Vals.int2 r
  have e1 : Nat.lcm 1 a.natAbs = a.natAbs := Nat.lcm_one_left _
  refine PySem.W.mg_lcm ha hb ?_ ?_
  · rw [e1]
    have : Nat.lcm a.natAbs b.natAbs < 2 ^ 128 := by
      have h1 : Nat.lcm a.natAbs b.natAbs ≤ a.natAbs * b.natAbs := Nat.div_le_self _ _
      have h2 : a.natAbs * b.natAbs < 2 ^ 64 * 2 ^ 64 := Nat.mul_lt_mul'' ha hb
      exact Nat.lt_of_le_of_lt h1 h2
    exact Nat.lt_of_lt_of_le (PySem.Flt.log2_lt_of (by decide) (show ((Nat.lcm a.natAbs b.natAbs : Nat) : Int).natAbs < 2 ^ 128 from this)) (by decide)
  · rw [e1]
    exact ⟨.int _, H, I.tok _, ⟨_, rfl⟩, q⟩
end Gd

/-! The end of a law whose promise wants to know what is under way: it is called by the judge's caller, where nothing is. -/
namespace Gd
open PySem PySem.Spec PyProof.Rows L2 LamX
/-- what is tracked ahead of the law's call: the tables ts, and the script at a unless it is of the written part -/
def h0 (ts : List Addr) (w : Bool) (a : Addr) (o : Obj) (xs : List V) : Hp := fun b => if b ∈ ts then some (.tbl #[]) else if w = true ∧ b = a then some (.frz o (.lst xs)) else none
section
variable {ts : List Addr} {w : Bool} {a b : Addr} {o : Obj} {xs : List V}
theorem h0_tab (h : b ∈ ts) : h0 ts w a o xs b = some (.tbl #[]) := if_pos h
theorem h0_at (h : a ∉ ts) (hw : w = true) : h0 ts w a o xs a = some (.frz o (.lst xs)) := by unfold h0; rw [if_neg h, if_pos ⟨hw, rfl⟩]
theorem h0_none (h : b ∉ ts) (h2 : ¬ (w = true ∧ b = a)) : h0 ts w a o xs b = none := by unfold h0; rw [if_neg h, if_neg h2]
theorem h0_cases (b : Addr) : (b ∈ ts ∧ h0 ts w a o xs b = some (.tbl #[])) ∨ (b ∉ ts ∧ w = true ∧ b = a ∧ h0 ts w a o xs b = some (.frz o (.lst xs))) ∨ (b ∉ ts ∧ ¬ (w = true ∧ b = a) ∧ h0 ts w a o xs b = none) := by
  by_cases h : b ∈ ts
  · exact .inl ⟨h, h0_tab h⟩
  · by_cases h2 : w = true ∧ b = a
    · exact .inr (.inl ⟨h, h2.1, h2.2, by obtain ⟨hw, rfl⟩ := h2; exact h0_at h hw⟩)
    · exact .inr (.inr ⟨h, h2, h0_none h h2⟩)
end
/-- what is known of the law's promise at the head's heap h -/
def LawG (l : PySem.W.OpenLaw) (w : World) (K : PySem.W.Frag) (k n : Nat) (x : Str) (mg : Str → Option Value) (fa : Addr) (h : Heap) : Prop :=
  ∃ (fd : FuncData) (cs : List (Addr × Addr)) (sp : Sp), (∀ p ∈ cs, h.get? p.2 = some { cls := .none, data := .fields #[] }) ∧ (∀ p ∈ cs, K.lookup p.2 = none) ∧ (∀ p ∈ cs, PySem.W.CodeHd h p.1 p.2) ∧ (∀ (s : Shared) (u : Value), BindsTo s fd ⟨[u], []⟩ [(x, u)]) ∧
    (∀ (H : Hp) (a : Addr) (ns : List Int), ns.length ≤ n → (∀ z ∈ ns, Builtin.Int.intBits z ≤ 1048576) → (∀ p ∈ cs, H p.2 = some (.tbl #[])) → SqL K H a (ns.map V.int) → sp [.ref a] H (fun v _ => v = .bl true) fun _ _ _ => False) ∧
    ∀ base : Heap, K.In base → base.Ns mainGlobals mg → (∀ p ∈ cs, TabB base mg p.1 p.2) → FnG l.prog w K mg base CX0 k fa fd [x] sp
section
variable {P : Program} {w : World} {K : PySem.W.Frag} {mg mb : Str → Option Value} {k : Nat} {fa a : Addr} {cs : List (Addr × Addr)} {fd : FuncData} {x : Str} {sp : Sp} {s₁ : Shared} {vs : List Value} {ns : List Int}
theorem law_callG (KX : K.In s₁.heap) (hns : s₁.heap.Ns mainGlobals mg) (hb : s₁.heap.Ns builtinsNs mb) (hbb : ∀ x : Str, x ≠ "__name__" → mb x = bootBuiltins x) (hlim : s₁.heap.NoLimit) (hg : s₁.gens = #[])
    (hT : ∀ p ∈ cs, s₁.heap.get? p.2 = some { cls := .none, data := .fields #[] }) (nT : ∀ p ∈ cs, K.lookup p.2 = none) (C : ∀ p ∈ cs, PySem.W.CodeHd s₁.heap p.1 p.2)
    (hbm : ∃ (bm : Addr) (ob : Obj), mg "__builtins__" = some (.ref bm) ∧ bm ≠ builtinsNs ∧ s₁.heap.get? bm = some ob ∧ ob.cls = .type "module" ∧ ob.dict = some builtinsNs ∧ ob.data = .plain)
    (ha : s₁.heap.get? a = some { cls := .type "list", data := .seq vs.toArray }) (hi : IntsAre vs ns) (hl : ns.length ≤ sizeLine) (hr : Room k callerA)
    (F : ∀ base : Heap, K.In base → base.Ns mainGlobals mg → (∀ p ∈ cs, TabB base mg p.1 p.2) → FnG P w K mg base CX0 k fa fd [x] sp) (hbind : ∀ (s : Shared) (u : Value), BindsTo s fd ⟨[u], []⟩ [(x, u)])
    (hsp : ∀ H : Hp, (∀ p ∈ cs, H p.2 = some (.tbl #[])) → SqL K H a (ns.map V.int) → sp [.ref a] H (fun v _ => v = .bl true) fun _ _ _ => False) :
    codeAny (model P w) callerA (.call (.ref fa) ⟨[.ref a], []⟩) (fun r s' => r = .ok (.ret (.bool true)) ∧ OldK s₁.heap s'.heap ∧ s'.os = s₁.os ∧ AllBare s'.gens) s₁ := by
  have rv := vals_ints hi
  have nlen := hi.length
  let ts := cs.map (·.2)
  have tabAt : ∀ b, b ∈ ts → s₁.heap.get? b = some { cls := .none, data := .fields #[] } ∧ K.lookup b = none := fun b hb => by
    obtain ⟨p, hp, rfl⟩ := List.mem_map.mp hb
    exact ⟨hT p hp, nT p hp⟩
  have inT : ∀ p ∈ cs, p.2 ∈ ts := fun p hp => List.mem_map.mpr ⟨p, hp, rfl⟩
  have aT : a ∉ ts := fun z => by
    have q := (tabAt a z).1
    rw [ha] at q
    exact absurd (congrArg Obj.data (Option.some.inj q)) (fun z => by cases z)
  let wr : Bool := (K.lookup a).isNone
  let H : Hp := h0 ts wr a { cls := .type "list", data := .seq vs.toArray } (ns.map V.int)
  -- the script is read
  have hS : SqL K H a (ns.map V.int) := by
    cases hk : K.lookup a with
    | none => exact .inl (.inr ⟨_, h0_at aT (by show (K.lookup a).isNone = true; rw [hk]; rfl)⟩)
    | some o =>
      have e := KX a o hk
      rw [ha] at e
      cases e
      exact .inr ⟨_, vs.toArray, _, hk, rfl, rfl, rfl, by rw [List.size_toArray, nlen]; exact hl, by simpa using rv⟩
  have hok : HOk P w H s₁.heap := fun b u e => by
    rcases h0_cases (ts := ts) (w := wr) (a := a) (o := { cls := .type "list", data := .seq vs.toArray }) (xs := ns.map V.int) b with ⟨h, q⟩ | ⟨_, _, rfl, q⟩ | ⟨_, _, q⟩
    · cases q.symm.trans e
      exact (tabAt b h).1
    · cases q.symm.trans e
      exact ⟨ha, by rw [List.length_map]; exact hl, vs, _, rv, ha⟩
    · cases q.symm.trans e
  -- an object that is neither a table nor the script is untracked
  have free : ∀ {b : Addr} {o : Obj}, s₁.heap.get? b = some o → o.data ≠ .fields #[] → (∀ us n, o.data ≠ .seq us n) → H b = none := fun {b o} e h1 h2 => by
    refine h0_none (fun z => ?_) (fun z => ?_)
    · rw [(tabAt b z).1] at e
      cases e
      exact h1 rfl
    · rw [z.2, ha] at e
      cases e
      exact h2 _ _ rfl
  have stay : ∀ {b : Addr} {o : Obj}, s₁.heap.get? b = some o → o.data ≠ .fields #[] → (∀ us n, o.data ≠ .seq us n) → (hidT s₁.heap H).get? b = some o := fun e h1 h2 => hidT_get e (free e h1 h2)
  have nsStay : ∀ {b : Addr} {m : Str → Option Value}, s₁.heap.Ns b m → (hidT s₁.heap H).Ns b m := fun {b m} ⟨o, es, ep, e, d, r⟩ => ⟨o, es, ep, stay e (fun z => by rw [d] at z; cases z) (fun _ _ z => by rw [d] at z; cases z), d, r⟩
  have KB : K.In (hidT s₁.heap H) := fun b o e => hidT_get (KX b o e) (by
    refine h0_none (fun z => ?_) (fun z => ?_)
    · rw [(tabAt b z).2] at e; cases e
    · have hw : (K.lookup a).isNone = true := z.1
      rw [z.2] at e
      rw [e] at hw; cases hw)
  have hM : L2.Mod K mg (hidT s₁.heap H) := by
    obtain ⟨mc, h1, h2⟩ := hlim
    exact ⟨KB, nsStay hns, ⟨mb, nsStay hb, hbb⟩, ⟨mc, nsStay h1, h2⟩⟩
  have TB : ∀ p ∈ cs, TabB (hidT s₁.heap H) mg p.1 p.2 := fun p hp => by
    have hTp := hT p hp
    refine ⟨?_, ?_, ?_⟩
    · obtain ⟨o, us, file, tf, flags, tg, inF, text, tt, e1, r1, r2, r3, r4, r5, r6, r7, r8, hne⟩ := C p hp
      exact ⟨o, us, file, tf, flags, tg, inF, text, tt, stay e1 (fun z => by rw [r2] at z; cases z; simp at r3) (fun _ _ z => by rw [r2] at z; cases z), r1, r2, r3, r4, r5, r6, r7, r8, hne⟩
    · obtain ⟨bm, ob, b1, b2, b3, b4, b5, b6⟩ := hbm
      refine ⟨bm, ob, b1, b2, fun q => ?_, fun q => ?_, stay b3 (fun z => by rw [b6] at z; cases z) (fun _ _ z => by rw [b6] at z; cases z), b4, b5, b6⟩
      · obtain ⟨o, es, ep, e, hd, _⟩ := hns
        rw [q, e] at b3
        cases b3
        rw [hd] at b6; cases b6
      · rw [q, hTp] at b3
        cases b3
        cases b6
    · intro z
      obtain ⟨o, es, ep, e, hd, _⟩ := hns
      rw [z, hTp] at e
      cases e
      cases hd
  have e0 : Env0 P w K mg (hidT s₁.heap H) callerA [] s₁ H := ⟨rfl, hM, fun b o e => of_hidT e, Nat.le_of_eq (hidT_size _ _), trivial, fun b z => absurd z (by simp [frs]), hok, .of_eq hg⟩
  refine codeAny_mono ((F _ KB (nsStay hns) TB).run callerA [] s₁ H ⟨[.ref a], []⟩ [.ref a] [.ref a] _ _ rfl hr e0 (hbind s₁ (.ref a)) (.cons rfl .nil) (hsp H (fun p hp => h0_tab (inT p hp)) hS)) fun r s' h => ?_
  cases r with
  | error e => exact (show False from h).elim
  | ok fl =>
    cases fl with
    | next => exact False.elim h
    | brk => exact False.elim h
    | cont => exact False.elim h
    | ret u =>
      obtain ⟨v, H', os, bare, un, hok', r', q⟩ := h
      obtain rfl : v = .bl true := q
      obtain rfl : u = Value.bool true := r'
      have kept : ∀ b o, b ∉ ts → s₁.heap.get? b = some o → s'.heap.get? b = some o := fun b o nb e => by
        rcases h0_cases (ts := ts) (w := wr) (a := a) (o := { cls := .type "list", data := .seq vs.toArray }) (xs := ns.map V.int) b with ⟨h, _⟩ | ⟨_, _, rfl, q⟩ | ⟨_, _, q⟩
        · exact absurd h nb
        · obtain ⟨e2, _⟩ := hok' b _ (un.frzs b _ _ q)
          rw [ha] at e
          rw [← e]; exact e2
        · exact un.keep b o e q (by simp [frs]) (by simp)
      have grown : ∀ p ∈ cs, ∃ more : Array Value, s'.heap.get? p.2 = some { cls := .none, data := .fields more } := fun p hp => by
        obtain ⟨more, z⟩ := un.tbls p.2 #[] (h0_tab (inT p hp))
        exact ⟨_, hok' p.2 _ z⟩
      refine ⟨rfl, ⟨fun b o e => ?_, fun b o e => ?_⟩, os, bare⟩
      · by_cases hbt : b ∈ ts
        · obtain ⟨p, hp, rfl⟩ := List.mem_map.mp hbt
          obtain ⟨more, hm⟩ := grown p hp
          rw [hT p hp] at e
          cases e
          exact .inr (.inl ⟨((C p hp).tab (hT p hp)).isCodeTable, rfl, #[], more, rfl, by rw [Array.empty_append]; exact hm⟩)
        · exact .inl (kept b o hbt e)
      · by_cases hbt : b ∈ ts
        · obtain ⟨p, hp, rfl⟩ := List.mem_map.mp hbt
          obtain ⟨more, hm⟩ := grown p hp
          exact ⟨_, hm⟩
        · exact ⟨o, kept b o hbt e⟩
end
theorem walk_ofG {l : PySem.W.OpenLaw} {n k : Nat} {q : Program} {loose : List Str} {XP : (Str → Option Value) → Heap → Prop} {YP : World → Heap → Prop} {d : DefRec} {x : Str}
    (hn : l.most = some n) (hn2 : n ≤ sizeLine) (hdf : d.params.defaults = []) (hr : Room k callerA)
    (F : ∀ (w : World) (mg : Str → Option Value) (fa : Addr) (h : Heap), YP w h → h.Ns mainGlobals mg → mg d.name = some (.ref fa) → ∃ K : PySem.W.Frag, K.In h ∧ LawG l w K k n x mg fa h) :
    PySem.W.WalkO q loose XP YP l.row.toRowW d [] (fun f vs => PySem.call f vs) := by
  refine Att.attach_callB hn hdf fun w s₀ s₁ mg mb fa o pm cd doc a vs ns G Y ho hd hcd hmg hobj hints hlen hbits hg => ?_
  obtain ⟨K, KX, fd, cs, sp, hT, nT, C, hb, hsp, hF⟩ := F w mg fa _ Y G.T.g hmg
  exact law_callG KX G.T.g G.T.b G.T.builtins G.T.nolimit hg hT nT C G.T.bmain hobj hints (Nat.le_trans hlen hn2) hr hF hb (fun H hH hS => hsp H a ns hlen hbits hH hS)
end Gd

/-! a comprehension over zip of two tuples; a statement that is not reached; in of a dict. -/
namespace Gd
open PySem PySem.Spec PyProof.Rows L2
theorem lc_zipM {K : PySem.W.Frag} {a b : Addr} {xs ys : List V} {g : TG} {tt : TT} {te : TE} {vs : List Nat} {σ : L2.St} {H1 : Hp} {D : Addr} {Qd : Hp → Prop} (n : Nat) (hn : n = min xs.length ys.length) (Pv : Nat → Hp → Prop) (h0 : Pv 0 (upd H1 D (.lst []))) (hq : ∀ i H, Pv i H → SqT K H a xs ∧ SqT K H b ys)
    (hs : ∀ (i : Nat) (x y : V) (T : Addr) (H : Hp), xs[i]? = some x → ys[i]? = some y → Pv i H → H T = none → g (.ref T) (wipe σ vs) (upd H T (.tup [x, y])) fun σ2 H2 => wipe σ2 vs = wipe σ vs ∧ tt σ2 H2 fun b H3 =>
      if b = true then te σ2 H3 fun y H4 => ∃ acc, H4 D = some (.lst acc) ∧ acc.length < sizeLine ∧ Pv (i + 1) (upd H4 D (.lst (acc ++ [y]))) else Pv (i + 1) H3) (hd : ∀ H, Pv n H → Qd H) :
    ∃ W : Nat → Nat → Hp → Prop, (∃ m, W 0 m (upd H1 D (.lst []))) ∧ ∀ i m H, W i m H →
      ((RZ.ItzT K a b).stop i H ∧ Qd H) ∨ ((RZ.ItzT K a b).go i H ∧ ∃ Nx : Hp → Prop, (∀ H', Nx H' → ∃ m', m' < m ∧ W (i + 1) m' H') ∧ ∀ x H', (RZ.ItzT K a b).yld i H x H' → g x (wipe σ vs) H' fun σ2 H2 => wipe σ2 vs = wipe σ vs ∧ tt σ2 H2 fun b H3 =>
        if b = true then te σ2 H3 fun y H4 => ∃ acc, H4 D = some (.lst acc) ∧ acc.length < sizeLine ∧ Nx (upd H4 D (.lst (acc ++ [y]))) else Nx H3) := by
  refine ⟨fun i m H => m = n - i ∧ i ≤ n ∧ Pv i H, ⟨n, rfl, Nat.zero_le _, h0⟩, ?_⟩
  rintro i m H ⟨rfl, hi, p⟩
  obtain ⟨qx, qy⟩ := hq i H p
  by_cases hlt : i < n
  · have hlt1 : i < xs.length := by omega
    have hlt2 : i < ys.length := by omega
    have hx : xs[i]? = some xs[i] := List.getElem?_eq_getElem hlt1
    have hy : ys[i]? = some ys[i] := List.getElem?_eq_getElem hlt2
    refine .inr ⟨⟨xs, ys, _, _, qx, qy, hx, hy⟩, Pv (i + 1), fun H' p' => ⟨n - (i + 1), by omega, rfl, hlt, p'⟩, fun v H' y => ?_⟩
    obtain ⟨T, x', y', rfl, hT, rfl, f1, f2⟩ := y
    exact hs i x' y' T H (f1 xs qx) (f2 ys qy) p hT
  · have e : i = n := by omega
    subst e
    exact .inl ⟨⟨xs, ys, qx, qy, by omega⟩, hd H p⟩
section
variable {X : Cx}
/-- a statement that is never reached -/
theorem ps_dead {st : Stmt} : PS X st (fun _ _ _ => False) := ⟨fun _ _ _ _ _ _ h => h.elim⟩
theorem pe_dead {e : Expr} : PE X e (fun _ _ _ => False) := ⟨fun _ _ _ _ _ _ h => h.elim⟩
theorem pss_dead {b : List Stmt} : PSs X b (fun _ _ _ => False) := ⟨fun _ _ _ _ _ _ h => h.elim⟩
def rInDc : R2 := fun x y H Q => ∃ a o, y = .ref a ∧ DGet H a x o ∧ Q (.bl o.isSome) H
def rNotInDc : R2 := fun x y H Q => ∃ a o, y = .ref a ∧ DGet H a x o ∧ Q (.bl (!o.isSome)) H
theorem op_inDc (hu : X.A.units + 1 < cLine) : OpR X (compareOp .In) rInDc := by
  intro pins s σ H x y v u Q I rx ry h
  obtain ⟨a, o, rfl, g, q⟩ := h
  cases ry
  exact d_in hu I g rx fun s1 I1 => ⟨.bl _, H, I1, rfl, q⟩
theorem op_notInDc (hu : X.A.units + 1 < cLine) : OpR X (compareOp .NotIn) rNotInDc := by
  intro pins s σ H x y v u Q I rx ry h
  obtain ⟨a, o, rfl, g, q⟩ := h
  cases ry
  exact d_notIn hu I g rx fun s1 I1 => ⟨.bl _, H, I1, rfl, q⟩
end
theorem _root_.L2.Room.units1 {k : Nat} {A : Around} (hr : Room k A) : A.units + 1 < cLine := by have := hr.un; omega
end Gd
namespace Gd
open PySem PySem.Spec PyProof.Rows L2
/-- a walk over a tuple, whatever a turn does -/
theorem walk_tup {K : PySem.W.Frag} {a : Addr} {xs : List V} {B : V → Hp → (Hp → Prop) → Prop} {H0 : Hp} {Qd : Hp → Prop} (Pv : Nat → Hp → Prop) (h0 : Pv 0 H0) (hl : ∀ i H, i ≤ xs.length → Pv i H → SqT K H a xs)
    (hs : ∀ i x H, xs[i]? = some x → Pv i H → B x H (Pv (i + 1))) (hd : ∀ H, Pv xs.length H → Qd H) :
    ∃ W : Nat → Nat → Hp → Prop, (∃ m, W 0 m H0) ∧ ∀ i m H, W i m H →
      ((Itt K a).stop i H ∧ Qd H) ∨ ((Itt K a).go i H ∧ ∃ Nx : Hp → Prop, (∀ H', Nx H' → ∃ m', m' < m ∧ W (i + 1) m' H') ∧ ∀ x H', (Itt K a).yld i H x H' → B x H' Nx) := by
  refine ⟨fun i m H => m = xs.length - i ∧ i ≤ xs.length ∧ Pv i H, ⟨xs.length, by simp, Nat.zero_le _, h0⟩, ?_⟩
  rintro i m H ⟨rfl, hi, p⟩
  have q := hl i H hi p
  by_cases hlt : i < xs.length
  · refine .inr ⟨⟨xs, xs[i], q, by simp [hlt]⟩, Pv (i + 1), fun H' p' => ⟨xs.length - (i + 1), by omega, rfl, hlt, p'⟩, fun x H' y => ?_⟩
    obtain ⟨e, y⟩ := y
    subst e
    exact hs i x _ (y xs q) p
  · have e : i = xs.length := by omega
    subst e
    exact .inl ⟨⟨xs, q, Nat.le_refl _⟩, hd H p⟩
end Gd
namespace Gd
open PySem PySem.Spec PyProof.Rows L2
/-- a walk over a text's signs -/
theorem walk_str {x : Str} {B : V → Hp → (Hp → Prop) → Prop} {H0 : Hp} {Qd : Hp → Prop} (Pv : Nat → Hp → Prop) (h0 : Pv 0 H0)
    (hs : ∀ i c H, x.cps[i]? = some c → Pv i H → B (.str ⟨#[c]⟩) H (Pv (i + 1))) (hd : ∀ H, Pv x.cps.size H → Qd H) :
    ∃ W : Nat → Nat → Hp → Prop, (∃ m, W 0 m H0) ∧ ∀ i m H, W i m H →
      ((Its x).stop i H ∧ Qd H) ∨ ((Its x).go i H ∧ ∃ Nx : Hp → Prop, (∀ H', Nx H' → ∃ m', m' < m ∧ W (i + 1) m' H') ∧ ∀ v H', (Its x).yld i H v H' → B v H' Nx) := by
  refine ⟨fun i m H => m = x.cps.size - i ∧ i ≤ x.cps.size ∧ Pv i H, ⟨x.cps.size, by simp, Nat.zero_le _, h0⟩, ?_⟩
  rintro i m H ⟨rfl, hi, p⟩
  by_cases hlt : i < x.cps.size
  · refine .inr ⟨hlt, Pv (i + 1), fun H' p' => ⟨x.cps.size - (i + 1), by omega, rfl, hlt, p'⟩, fun v H' y => ?_⟩
    obtain ⟨rfl, c, hc, rfl⟩ := y
    exact hs i c _ hc p
  · have e : i = x.cps.size := by omega
    subst e
    exact .inl ⟨Nat.le_refl _, hd H p⟩
end Gd

namespace Own
open PySem PySem.Spec PyProof.Rows L2 SX
/-! ### the store of numbers that the draws eat -/
structure HpL (H : Hp) (h q : Addr) (cs : List Int) (st : Int) : Prop where
  ne : h ≠ q
  hh : H h = some (.lst [.ref q, .int st])
  hq : H q = some (.lst (cs.map V.int))
  nn : ∀ c ∈ cs, 0 ≤ c
  ln : cs.length ≤ 60
  s0 : 0 ≤ st
  s1 : st < 2147483647
def HpAt (H : Hp) (h q : Addr) : Prop := ∃ cs st, HpL H h q cs st
def Kpt (h q : Addr) (H H' : Hp) : Prop := ∀ b o, H b = some o → b ≠ h → b ≠ q → H' b = some o
theorem Kpt.refl (h q : Addr) (H : Hp) : Kpt h q H H := fun _ _ e _ _ => e
theorem Kpt.trans {h q : Addr} {H H1 H2 : Hp} (a : Kpt h q H H1) (b : Kpt h q H1 H2) : Kpt h q H H2 := fun c o e n1 n2 => b c o (a c o e n1 n2) n1 n2
theorem Kpt.of_same {h q : Addr} {H H' : Hp} (s : Same H H') : Kpt h q H H' := fun b o e _ _ => s b o e
theorem Kpt.at_q {h q : Addr} {H : Hp} {o : HO} : Kpt h q H (upd H q o) := fun b x e _ n => by rw [upd_ne n]; exact e
theorem Kpt.at_h {h q : Addr} {H : Hp} {o : HO} : Kpt h q H (upd H h o) := fun b x e n _ => by rw [upd_ne n]; exact e
theorem HpL.same {H H' : Hp} {h q : Addr} {cs : List Int} {st : Int} (a : HpL H h q cs st) (s : Same H H') : HpL H' h q cs st := ⟨a.ne, s _ _ a.hh, s _ _ a.hq, a.nn, a.ln, a.s0, a.s1⟩
theorem HpAt.same {H H' : Hp} {h q : Addr} (a : HpAt H h q) (s : Same H H') : HpAt H' h q := by
  obtain ⟨cs, st, a⟩ := a
  exact ⟨cs, st, a.same s⟩
theorem HpL.put {H : Hp} {h q : Addr} {cs : List Int} {st : Int} (a : HpL H h q cs st) (ds : List Int) (nn : ∀ c ∈ ds, 0 ≤ c) (ln : ds.length ≤ 60) : HpL (upd H q (.lst (ds.map V.int))) h q ds st :=
  ⟨a.ne, by rw [upd_ne a.ne]; exact a.hh, upd_same, nn, ln, a.s0, a.s1⟩
theorem HpAt.fresh {H : Hp} {h q p : Addr} (a : HpAt H h q) (np : H p = none) : p ≠ h ∧ p ≠ q := by
  obtain ⟨cs, st, a⟩ := a
  exact ⟨(ne_of_none a.hh np).symm, (ne_of_none a.hq np).symm⟩
theorem dp_ints {K : PySem.W.Frag} {H : Hp} : ∀ cs : List Int, DpAll K H (cs.map V.int) (cs.map PyData.int)
  | [] => .nil
  | c :: r => .cons (.int c) (dp_ints r)
theorem shp_ints (ns : List Int) : SeqAt.shaped (.list (ns.map PyData.int)) = true := PySem.W.ke_shaped_ints ns
theorem Kpt.free {h q D : Addr} {H H1 : Hp} (k : Kpt h q H H1) (n : H1 D = none) (n1 : D ≠ h) (n2 : D ≠ q) : H D = none := by
  cases e : H D with
  | none => rfl
  | some o => rw [k _ _ e n1 n2] at n; cases n
theorem Kpt.at_new {h q D : Addr} {H H1 : Hp} {o : HO} (k : Kpt h q H H1) (n : H D = none) : Kpt h q H (upd H1 D o) := fun b x e n1 n2 => by
  rw [upd_ne (ne_of_none e n)]; exact k _ _ e n1 n2
theorem HpAt.upd {H : Hp} {h q D : Addr} {o : HO} (a : HpAt H h q) (n1 : D ≠ h) (n2 : D ≠ q) : HpAt (upd H D o) h q := by
  obtain ⟨cs, st, a⟩ := a
  exact ⟨cs, st, a.ne, by rw [upd_ne n1.symm]; exact a.hh, by rw [upd_ne n2.symm]; exact a.hq, a.nn, a.ln, a.s0, a.s1⟩
theorem cut60 (ns : List Int) : cutV (ns.map V.int) none (some 60) = (ns.take 60).map V.int := by
  unfold cutV
  rw [HT.sIx_none, show HT.sIx (ns.map V.int).length (ns.map V.int).length (some 60) = min 60 (ns.map V.int).length from HT.sIx_nat _ _ 60, List.drop_zero, Nat.sub_zero, List.map_take]
  by_cases h : 60 ≤ (ns.map V.int).length
  · rw [Nat.min_eq_left h]
  · rw [Nat.min_eq_right (by omega), List.take_length, List.take_of_length_le (by omega)]
theorem get_int {ns : List Int} {i : Nat} {x : V} (h : (ns.map V.int)[i]? = some x) : ∃ z, ns[i]? = some z ∧ x = .int z := by
  rw [List.getElem?_map] at h
  cases e : ns[i]? with
  | none => rw [e] at h; cases h
  | some z => rw [e] at h; exact ⟨z, rfl, (Option.some.inj h).symm⟩
end Own

/-! zip of three tuples in a loop, tuple(zip(list, list)), len(set(tuple of integers)). -/
namespace Z3
open PySem PySem.Spec PyProof.Rows L2 RZ
/-! ### three tuples side by side -/
def ItzT3 (K : PySem.W.Frag) (a b c : Addr) : It :=
  ⟨fun i H => ∃ (xs ys zs : List V) (x y z : V), SqT K H a xs ∧ SqT K H b ys ∧ SqT K H c zs ∧ xs.length = ys.length ∧ ys.length = zs.length ∧ xs[i]? = some x ∧ ys[i]? = some y ∧ zs[i]? = some z,
    fun i H v H' => ∃ T x y z, v = .ref T ∧ H T = none ∧ H' = upd H T (.tup [x, y, z]) ∧ (∀ xs, SqT K H a xs → xs[i]? = some x) ∧ (∀ ys, SqT K H b ys → ys[i]? = some y) ∧ ∀ zs, SqT K H c zs → zs[i]? = some z,
    fun i H => ∃ xs ys zs : List V, SqT K H a xs ∧ SqT K H b ys ∧ SqT K H c zs ∧ xs.length = i ∧ ys.length = i ∧ zs.length = i⟩
theorem turn_zip3 {P : Program} {w : World} {K : PySem.W.Frag} {elts : List Expr} {kk : Nat} {tpos : Pos} {a b c z TI TO i1 i2 i3 : Addr} (D : ZipSep3 z TI TO i1 i2 i3 [i1, a] [i2, b] [i3, c]) (na : a ≠ i1) (nb : b ≠ i2) (nc : c ≠ i3) :
    Turn P w K (.Tuple elts kk tpos) (ItzT3 K a b c) [z, TI, TO, i1, i2, i3] z (fun i h => IsZip h z TI TO .none ∧ IsTupOf3 h TI (.ref i1) (.ref i2) (.ref i3) ∧ (∃ x y v, IsTupOf3 h TO x y v) ∧ h.IsTupleIter i1 a i ∧ h.IsTupleIter i2 b i ∧ h.IsTupleIter i3 c i) where
  mem := by simp
  obj := fun i h st e hc => by
    obtain ⟨hz, hTI, ⟨x, y, v, hTO⟩, ⟨o1, e1, _, d1⟩, ⟨o2, e2, _, d2⟩, ⟨o3, e3, _, d3⟩⟩ := st
    have e' : e = z ∨ e = TI ∨ e = TO ∨ e = i1 ∨ e = i2 ∨ e = i3 := by simpa using hc
    rcases e' with q | q | q | q | q | q
    · rw [q]; exact ⟨_, hz, fun v q => nomatch q⟩
    · rw [q]; exact ⟨_, hTI, fun v q => nomatch q⟩
    · rw [q]; exact ⟨_, hTO, fun v q => nomatch q⟩
    · rw [q]; exact ⟨o1, e1, fun v q => by rw [d1] at q; cases q⟩
    · rw [q]; exact ⟨o2, e2, fun v q => by rw [d2] at q; cases q⟩
    · rw [q]; exact ⟨o3, e3, fun v q => by rw [d3] at q; cases q⟩
  keep := fun i h h' st k => by
    obtain ⟨hz, hTI, ⟨x, y, v, hTO⟩, h1, h2, h3⟩ := st
    exact ⟨k z (by simp) _ hz, k TI (by simp) _ hTI, ⟨x, y, v, k TO (by simp) _ hTO⟩, h1.at fun o q => k i1 (by simp) o q, h2.at fun o q => k i2 (by simp) o q, h3.at fun o q => k i3 (by simp) o q⟩
  item := by
    intro X hP hw hK hc i pins s σ H E I hf st hg
    subst hP hw hK
    obtain ⟨hz, hTI, ⟨x0, y0, v0, hTO⟩, h1, h2, h3⟩ := st
    obtain ⟨xs, ys, zs, x, y, v, hqx, hqy, hqz, le1, le2, hx, hy, hv⟩ := hg
    obtain ⟨its, rv, p, _⟩ := I.tuple hqx
    obtain ⟨its2, rv2, p2, _⟩ := I.tuple hqy
    obtain ⟨its3, rv3, p3, _⟩ := I.tuple hqz
    obtain ⟨u, hu, ru⟩ := rv.get hx
    obtain ⟨u2, hu2, ru2⟩ := rv2.get hy
    obtain ⟨u3, hu3, ru3⟩ := rv3.get hv
    have hzl : z < s.heap.objs.size := Heap.lt_size hz
    have hh : X.A.in1.in1.handled = none := I.ok.hd hc
    have l1 : i < its.toArray.size := by have := (List.getElem?_eq_some_iff.mp hu).1; simpa using this
    have l2 : i < its2.toArray.size := by have := (List.getElem?_eq_some_iff.mp hu2).1; simpa using this
    have l3 : i < its3.toArray.size := by have := (List.getElem?_eq_some_iff.mp hu3).1; simpa using this
    refine wpAny_pyNext_zipD3_item (A := X.A) D (Draws.tuple (A := X.A.in1) hh i1 a na its.toArray) (Draws.tuple (A := X.A.in1) hh i2 b nb its2.toArray) (Draws.tuple (A := X.A.in1) hh i3 c nc its3.toArray) hz hTI hTO ⟨h1, p⟩ ⟨h2, p2⟩ ⟨h3, p3⟩ l1 l2 l3 fun x1 x2 x3 h' tk e1 e2 e3 z' TO' q1 q2 q3 hT hsz hk => ?_
    obtain rfl : x1 = u := by
      have : its[i]? = some x1 := by simpa using e1
      rw [hu] at this; exact (Option.some.inj this).symm
    obtain rfl : x2 = u2 := by
      have : its2[i]? = some x2 := by simpa using e2
      rw [hu2] at this; exact (Option.some.inj this).symm
    obtain rfl : x3 = u3 := by
      have : its3[i]? = some x3 := by simpa using e3
      rw [hu3] at this; exact (Option.some.inj this).symm
    refine ⟨_, rfl, wpAny_letOwnedTupleGo_zip (s := { s with heap := h', toks := tk }) z' fun h'' z'' sb => ?_⟩
    have hT2 : h''.get? s.heap.objs.size = some { cls := .type "tuple", data := .seq #[x1, x2, x3] } := (sb.2 _ (Nat.ne_of_gt hzl)).trans hT
    have new : ObjOk X.prog X.w (upd H s.heap.objs.size (.tup [x, y, v])) h'' s.heap.objs.size (.tup [x, y, v]) :=
      ⟨by show 3 ≤ sizeLine; decide, [x1, x2, x3], .cons ru (.cons ru2 (.cons ru3 .nil)), ⟨_, hT2, rfl, _, rfl⟩⟩
    have I1 : Inv X pins σ (upd H s.heap.objs.size (.tup [x, y, v])) { s with heap := h'', toks := tk } :=
      I.turnedNew (t' := tk) (ch := [z, TI, TO, i1, i2, i3]) (fun c o hb q => (sb.2 c (fun q' => hb (by simp [q']))).trans (hk c o (fun q' => hb (by simp [q'])) (fun q' => hb (by simp [q'])) (fun q' => hb (by simp [q'])) (fun q' => hb (by simp [q'])) (fun q' => hb (by simp [q'])) q)) hf (Nat.le_refl _) new
    refine ⟨.ref s.heap.objs.size, _, I1, rfl, ⟨_, x, y, v, rfl, I.hok.fresh (Nat.le_refl _), rfl, fun l hl => by rw [I.tuple_inj hl hqx]; exact hx, fun l hl => by rw [I.tuple_inj hl hqy]; exact hy, fun l hl => by rw [I.tuple_inj hl hqz]; exact hv⟩, ⟨z'', ?_, ⟨x1, x2, x3, ?_⟩, ?_, ?_, ?_⟩, fun e hcm => ?_⟩
    · exact (sb.2 _ D.TIz).trans (hk _ _ D.TIz D.TITO D.TIi1 D.TIi2 D.TIi3 hTI)
    · exact (sb.2 _ D.TOz).trans TO'
    · exact q1.1.at fun o q => (sb.2 _ D.zi1.symm).trans q
    · exact q2.1.at fun o q => (sb.2 _ D.zi2.symm).trans q
    · exact q3.1.at fun o q => (sb.2 _ D.zi3.symm).trans q
    · have hlt : e < s.heap.objs.size := by
        have e' : e = z ∨ e = TI ∨ e = TO ∨ e = i1 ∨ e = i2 ∨ e = i3 := by simpa using hcm
        rcases e' with q | q | q | q | q | q
        · rw [q]; exact hzl
        · rw [q]; exact Heap.lt_size hTI
        · rw [q]; exact Heap.lt_size hTO
        · rw [q]; obtain ⟨_, e1, _⟩ := h1; exact Heap.lt_size e1
        · rw [q]; obtain ⟨_, e2, _⟩ := h2; exact Heap.lt_size e2
        · rw [q]; obtain ⟨_, e3, _⟩ := h3; exact Heap.lt_size e3
      rw [upd_ne (Nat.ne_of_lt hlt)]
      exact (hf e hcm).1
  done := by
    intro X hP hw hK hc i pins s σ H E I hf st hg
    subst hP hw hK
    obtain ⟨hz, hTI, ⟨x0, y0, v0, hTO⟩, h1, h2, h3⟩ := st
    obtain ⟨xs, ys, zs, hqx, hqy, hqz, lx, ly, lz⟩ := hg
    obtain ⟨its, rv, p, _⟩ := I.tuple hqx
    obtain ⟨its2, rv2, p2, _⟩ := I.tuple hqy
    obtain ⟨its3, rv3, p3, _⟩ := I.tuple hqz
    have l1 := rv.length
    have l2 := rv2.length
    have l3 := rv3.length
    have s1 : its.toArray.size = i := by simp; omega
    have s2 : its2.toArray.size = i := by simp; omega
    have s3 : its3.toArray.size = i := by simp; omega
    have hh : X.A.in1.in1.handled = none := I.ok.hd hc
    exact wpAny_pyNext_zipD3_end (A := X.A) D (Draws.tuple (A := X.A.in1) hh i1 a na its.toArray) (Draws.tuple (A := X.A.in1) hh i2 b nb its2.toArray) (Draws.tuple (A := X.A.in1) hh i3 c nc its3.toArray) hz hTI hTO ⟨h1, p⟩ ⟨h2, p2⟩ ⟨h3, p3⟩ (by omega) (by omega) (by omega) (.inl s1.symm)
      fun h' tk hk => ⟨rfl, I.turnedL (t' := tk) (ch := [z, TI, TO, i1, i2, i3]) (fun c o hb q =>
      hk c o (fun q' => hb (by simp [q'])) (fun q' => hb (by simp [q'])) (fun q' => hb (by simp [q'])) (fun q' => hb (by simp [q'])) (fun q' => hb (by simp [q'])) q) hf⟩
  self := fun A i s Q E st h => wpAny_pyIter_zip st.1 h
def iZip3 (K : PySem.W.Frag) (ta : TA) : TI := fun σ H R => ta σ H fun vs H1 => ∃ a b c xs ys zs, vs = [.ref a, .ref b, .ref c] ∧ SqT K H1 a xs ∧ SqT K H1 b ys ∧ SqT K H1 c zs ∧ R (ItzT3 K a b c) H1
theorem pi_zip3 {X : Cx} {e e2 e3 : Expr} {ta : TA} {p pos tpos : Pos} {elts : List Expr} {kk : Nat} (hg : Gl X "zip") (hm : X.mg "zip" = none) (ha : PA X [e, e2, e3] ta)
    (hs : starEach [e, e2, e3] X.env = (false, eval e X.env) :: starEach [e2, e3] X.env := by rfl) (hpl : (backTo pos (starEach [e2, e3] X.env)).any (·.1) = false := by rfl) :
    PI X (.Tuple elts kk tpos) (.Call (.Name "zip" p) [e, e2, e3] [] pos) (iZip3 X.K ta) := by
  refine ⟨fun pins s σ H R I h => ?_⟩
  refine Call_ (ld_blt I hg hm PyProof.Rows.boot_zip (PyProof.Rows.callWith_type1 (thn (ha.run pos pins s σ H _ I h) fun us s1 ⟨vs, H1, I1, r1, q1⟩ => ?_) hs hpl))
  obtain ⟨a, b, c, xs, ys, zs, ex, hqx, hqy, hqz, q⟩ := q1
  subst ex
  cases r1 with
  | cons r rr =>
    cases rr with
    | cons r' rr =>
      cases rr with
      | cons r'' rr =>
        cases rr
        cases r
        cases r'
        cases r''
        have fresh6 : ∀ c, c ∈ [s1.heap.objs.size + 5, s1.heap.objs.size + 3, s1.heap.objs.size + 4, s1.heap.objs.size, s1.heap.objs.size + 1, s1.heap.objs.size + 2] → FpOk X pins H1 c := fun c hcm => by
          have e' : c = s1.heap.objs.size + 5 ∨ c = s1.heap.objs.size + 3 ∨ c = s1.heap.objs.size + 4 ∨ c = s1.heap.objs.size ∨ c = s1.heap.objs.size + 1 ∨ c = s1.heap.objs.size + 2 := by simpa using hcm
          have hle : s1.heap.objs.size ≤ c := by
            rcases e' with z | z | z | z | z | z <;> rw [z] <;> first | exact Nat.le_refl _ | exact Nat.le_add_right _ _
          exact I1.fpOk hle (I1.hok.fresh hle)
        obtain ⟨its, rv, p1, _⟩ := I1.tuple hqx
        obtain ⟨its2, rv2, p2, _⟩ := I1.tuple hqy
        obtain ⟨its3, rv3, p3, _⟩ := I1.tuple hqz
        have la : @LT.lt Nat _ a s1.heap.objs.size := by obtain ⟨_, e, _⟩ := id p1; exact Heap.lt_size e
        have lb : @LT.lt Nat _ b s1.heap.objs.size := by obtain ⟨_, e, _⟩ := id p2; exact Heap.lt_size e
        have lc : @LT.lt Nat _ c s1.heap.objs.size := by obtain ⟨_, e, _⟩ := id p3; exact Heap.lt_size e
        refine zip_begins3 (begins_tuple a its.toArray) (begins_tuple b its2.toArray) (begins_tuple c its3.toArray) p1 p2 p3 fun h' hz hTI hTO h1 h2 h3 hsz hk => wpAny_pyIter_zip hz ?_
        have I2 : Inv X pins σ H1 { s1 with heap := h' } := I1.kept (t' := s1.toks) hk
        have ap : ZipSep3 (s1.heap.objs.size + 5) (s1.heap.objs.size + 3) (s1.heap.objs.size + 4) s1.heap.objs.size (s1.heap.objs.size + 1) (s1.heap.objs.size + 2) [s1.heap.objs.size, a] [s1.heap.objs.size + 1, b] [s1.heap.objs.size + 2, c] := by
          refine ⟨?_, ?_, ?_, ?_, ?_, ?_, ?_, ?_, ?_, ?_, ?_, ?_, ?_, ?_, ?_, ?_, ?_, ?_, ?_, ?_, ?_⟩
          all_goals first
            | exact List.mem_cons_self ..
            | (intro h; have h2 : @Eq Nat _ _ := h; omega)
            | (intro h; rcases List.mem_cons.mp h with h | h
               · have h2 : @Eq Nat _ _ := h; omega
               · have h2 : @Eq Nat _ _ := List.mem_singleton.mp h; omega)
        exact ⟨s1.heap.objs.size + 5, [s1.heap.objs.size + 5, s1.heap.objs.size + 3, s1.heap.objs.size + 4, s1.heap.objs.size, s1.heap.objs.size + 1, s1.heap.objs.size + 2], _, _, H1, rfl, I2, turn_zip3 ap (fun e => by have h2 : @Eq Nat _ _ := e; omega) (fun e => by have h2 : @Eq Nat _ _ := e; omega) (fun e => by have h2 : @Eq Nat _ _ := e; omega), ⟨hz, hTI, ⟨_, _, _, hTO⟩, ⟨_, h1, rfl, rfl⟩, ⟨_, h2, rfl, rfl⟩, ⟨_, h3, rfl, rfl⟩⟩, fresh6, q⟩
theorem for_zip3 {K : PySem.W.Frag} {a b c : Addr} {xs ys zs : List V} {g : TG} {tb : TS} {D : Ends} {σ : L2.St} {H : Hp} (hl : xs.length = ys.length) (hl2 : ys.length = zs.length) (Pv : Nat → L2.St → Hp → Prop) (h0 : Pv 0 σ H) (hq : ∀ i σ H, Pv i σ H → SqT K H a xs ∧ SqT K H b ys ∧ SqT K H c zs)
    (hs : ∀ (i : Nat) (x y z : V) (T : Addr) (σ : L2.St) (H : Hp), xs[i]? = some x → ys[i]? = some y → zs[i]? = some z → Pv i σ H → H T = none → g (.ref T) σ (upd H T (.tup [x, y, z])) fun σ2 H2 => tb { D with nx := Pv (i + 1), ct := Pv (i + 1), bk := D.nx } σ2 H2) (hd : ∀ σ H, Pv xs.length σ H → D.nx σ H) :
    ∃ W : Nat → Nat → L2.St → Hp → Prop, (∃ m, W 0 m σ H) ∧ ∀ i m σ H, W i m σ H →
      ((ItzT3 K a b c).stop i H ∧ D.nx σ H) ∨ ((ItzT3 K a b c).go i H ∧ ∃ N : L2.St → Hp → Prop, (∀ σ' H', N σ' H' → ∃ m', m' < m ∧ W (i + 1) m' σ' H') ∧ ∀ v H', (ItzT3 K a b c).yld i H v H' → g v σ H' fun σ2 H2 => tb { D with nx := N, ct := N, bk := D.nx } σ2 H2) := by
  refine ⟨fun i m σ H => m = xs.length - i ∧ i ≤ xs.length ∧ Pv i σ H, ⟨xs.length, rfl, Nat.zero_le _, h0⟩, ?_⟩
  rintro i m σ H ⟨rfl, hi, p⟩
  obtain ⟨qx, qy, qz⟩ := hq i σ H p
  by_cases hlt : i < xs.length
  · have hx : xs[i]? = some xs[i] := List.getElem?_eq_getElem hlt
    have hlt2 : i < ys.length := by omega
    have hy : ys[i]? = some ys[i] := List.getElem?_eq_getElem hlt2
    have hlt3 : i < zs.length := by omega
    have hz : zs[i]? = some zs[i] := List.getElem?_eq_getElem hlt3
    refine .inr ⟨⟨xs, ys, zs, _, _, _, qx, qy, qz, hl, hl2, hx, hy, hz⟩, Pv (i + 1), fun σ' H' p' => ⟨xs.length - (i + 1), by omega, rfl, hlt, p'⟩, fun v H' y => ?_⟩
    obtain ⟨T, x', y', z', rfl, hT, rfl, f1, f2, f3⟩ := y
    exact hs i x' y' z' T σ H (f1 xs qx) (f2 ys qy) (f3 zs qz) p hT
  · have e : i = xs.length := by omega
    subst e
    exact .inl ⟨⟨xs, ys, zs, qx, qy, qz, rfl, hl.symm, by omega⟩, hd σ H p⟩
/-! ### len(set(t)), t a tuple of unlike integers -/
def tLenSetT (K : PySem.W.Frag) (ta : TE) : TE := fun σ H Q => ta σ H fun x H1 => ∃ (l : Addr) (ns : List Int), x = .ref l ∧ SqT K H1 l (ns.map V.int) ∧ ns.Nodup ∧ ns.length ≤ 1000 ∧ Q (.int (ns.length : Nat)) H1
theorem pe_lenSetT {X : Cx} {a : Expr} {ta : TE} {p p2 q pos : Pos} (hg : Gl X "len") (hm : X.mg "len" = none) (hg2 : Gl X "set") (hm2 : X.mg "set" = none) (ha : PE X a ta) (hc : X.calm = true := by rfl)
    (na : starEach [a] X.env = (false, eval a X.env) :: starEach [] X.env := by rfl) : PE X (.Call (.Name "len" p) [.Call (.Name "set" p2) [a] [] q] [] pos) (tLenSetT X.K ta) := by
  refine ⟨fun pins s σ H Q I h => ?_⟩
  refine Call_ (ld_blt I hg hm boot_len ?_)
  refine PyProof.Rows.callWith_builtin1 (PyProof.Rows.args_cons ?_ rfl) rfl rfl
  refine Call_ (ld_blt I hg2 hm2 boot_set ?_)
  refine PyProof.Rows.callWith_type1 (PyProof.Rows.args_cons (thn (ha.run pins s σ H _ I h) fun v s1 ⟨x, H1, I1, r1, q1⟩ => PyProof.Rows.args_nil ?_) na) na rfl
  obtain ⟨l, ns, rfl, hq, hnd, hl, q1⟩ := q1
  cases r1
  obtain ⟨its, r, pl, hz⟩ := I1.tuple hq
  refine call_set_tupI ns (I1.ok.hd hc) pl (by simpa using intsAre_vals r) (by unfold scanBound; omega) fun h' tk c hS hc' hk => ?_
  refine PyProof.Rows.args_nil ?_
  obtain ⟨o, es, ep, t, ho, hex, hd, _, nd, iff, lt, hf, hn, _⟩ := hS
  have hlen : es.size = ns.length := by
    have pm : (es.toList.map keyOf).Perm ns := (List.perm_ext_iff_of_nodup nd hnd).mpr fun k => ⟨fun h => of_decide_eq_true ((iff k).mpr h), fun h => (iff k).mp (decide_eq_true h)⟩
    have := pm.length_eq
    rw [List.length_map, Array.length_toList] at this
    exact this
  have I2 : Inv X pins σ H1 { s1 with heap := h', toks := tk } := I1.kept hk
  exact call_len_set ho hex hd hf (by rw [hlen] <;> omega) ⟨.int ns.length, H1, I2.tok _, ⟨_, by rw [hlen]⟩, q1⟩
end Z3

/-! tuple(zip(xs, ys)) of two lists of one length: a new tuple of new pairs. -/
namespace Z3
open PySem PySem.Spec PyProof.Rows L2 RZ
theorem zip_no_len : typeLookup (.type "zip") "__len__" = pure none := by rw [typeLookup_type, builtinLookup_eq_fast]; kernel_rfl
theorem zip_no_hint : typeLookup (.type "zip") "__length_hint__" = pure none := by rw [typeLookup_type, builtinLookup_eq_fast]; kernel_rfl
structure ZSt (a b z TI TO i1 i2 : Addr) (i : Nat) (h : Heap) : Prop where
  h1 : h.IsListIter i1 a i
  h2 : h.IsListIter i2 b i
  hTI : IsPair h TI (.ref i1) (.ref i2)
  hTO : ∃ o, h.get? TO = some o
  st : (IsZip h z TI TO .none ∧ ∃ x y, IsPair h TO x y) ∨ ∃ T f oT, IsZipHeld h z TI TO T f ∧ h.get? T = some oT ∧ T ∉ [z, TO, i1, i2]
def lstO (Ts : List Addr) (c : Nat) : Obj := { cls := .type "list", dict := none, data := .seq (Ts.map Value.ref).toArray c, slots := #[] }
theorem Same.at_new {H : Hp} {p : Addr} {o : HO} (h : H p = none) : L2.Same H (upd H p o) := fun b x e => by
  rw [upd_ne (ne_of_none e h)]; exact e
section
variable {X : Cx} {pins : List (Addr × Obj)} {σ : L2.St} {a b z TI TO i1 i2 S : Addr} {xs ys : List V}
theorem zip_step {A : Around} {E : Value → Shared → Prop} (D : ZipApart z TI TO i1 i2 a b) (nS : S ∉ [z, TI, TO, i1, i2]) {i : Nat} {s : Shared} {H : Hp} {oS : Obj} (I : Inv X pins σ H s) (hf : ∀ b ∈ [z, TI, TO, i1, i2], FpOk X pins H b)
    (hqx : SqL X.K H a xs) (hqy : SqL X.K H b ys) (Z : ZSt a b z TI TO i1 i2 i s.heap) (hS : s.heap.get? S = some oS) {x y : V} (hx : xs[i]? = some x) (hy : ys[i]? = some y) :
    wpAny (model X.prog X.w) A (pyNext (.ref z)) (fun r s1 => r = some (.ref s.heap.objs.size) ∧ Inv X pins σ (upd H s.heap.objs.size (.tup [x, y])) s1 ∧ ZSt a b z TI TO i1 i2 (i + 1) s1.heap ∧ s1.heap.get? S = some oS ∧ s.heap.objs.size < s1.heap.objs.size ∧ s.heap.objs.size ∉ [z, TI, TO, i1, i2, S]) E s := by
  obtain ⟨its, rv, p, _⟩ := I.list hqx
  obtain ⟨its2, rv2, p2, _⟩ := I.list hqy
  obtain ⟨u, hu, ru⟩ := rv.get hx
  obtain ⟨u2, hu2, ru2⟩ := rv2.get hy
  obtain ⟨h1, h2, hTI, ⟨oO, gO⟩, st⟩ := Z
  have ltO : TO < s.heap.objs.size := Heap.lt_size gO
  have Szz : S ≠ z := fun e => nS (by simp [e])
  have Sto : S ≠ TO := fun e => nS (by simp [e])
  have S1 : S ≠ i1 := fun e => nS (by simp [e])
  have S2 : S ≠ i2 := fun e => nS (by simp [e])
  have lt1 : i1 < s.heap.objs.size := by obtain ⟨_, e, _⟩ := h1; exact Heap.lt_size e
  have lt2 : i2 < s.heap.objs.size := by obtain ⟨_, e, _⟩ := h2; exact Heap.lt_size e
  have ltT : TI < s.heap.objs.size := Heap.lt_size hTI
  have ltS : S < s.heap.objs.size := Heap.lt_size hS
  rcases st with ⟨hz, x0, y0, hTO⟩ | ⟨T, f, oT, hz, hT, nT⟩
  · have ltz : z < s.heap.objs.size := Heap.lt_size hz
    refine wpAny_pyNext_zip_item D hz hTI hTO h1 h2 p.isList p2.isList (x := u) (y := u2) (by simpa using hu) (by simpa using hu2) fun h' z' TO' h1' h2' hT hsz hk => ?_
    have new : ObjOk X.prog X.w (upd H s.heap.objs.size (.tup [x, y])) h' s.heap.objs.size (.tup [x, y]) :=
      ⟨by show 2 ≤ sizeLine; decide, [u, u2], .cons ru (.cons ru2 .nil), ⟨_, hT, rfl, _, rfl⟩⟩
    have I1 : Inv X pins σ (upd H s.heap.objs.size (.tup [x, y])) { s with heap := h' } :=
      I.turnedNew (t' := s.toks) (ch := [z, TI, TO, i1, i2]) (fun c o hb q => hk c o (fun q' => hb (by simp [q'])) (fun q' => hb (by simp [q'])) (fun q' => hb (by simp [q'])) (fun q' => hb (by simp [q'])) q) hf (Nat.le_refl _) new
    refine ⟨rfl, I1, ⟨h1', h2', hk _ _ D.TIz D.TITO D.TIi1 D.TIi2 hTI, ⟨_, TO'⟩, .inr ⟨s.heap.objs.size, false, _, z', hT, ?_⟩⟩, hk _ _ Szz Sto S1 S2 hS, ?_, ?_⟩
    · simp only [List.mem_cons, List.not_mem_nil, or_false, not_or]
      exact ⟨Nat.ne_of_gt ltz, Nat.ne_of_gt ltO, Nat.ne_of_gt lt1, Nat.ne_of_gt lt2⟩
    · show s.heap.objs.size < h'.objs.size
      rw [hsz]; exact Nat.lt_succ_self _
    · simp only [List.mem_cons, List.not_mem_nil, or_false, not_or]
      exact ⟨Nat.ne_of_gt ltz, Nat.ne_of_gt ltT, Nat.ne_of_gt ltO, Nat.ne_of_gt lt1, Nat.ne_of_gt lt2, Nat.ne_of_gt ltS⟩
  · have ltz : z < s.heap.objs.size := Heap.lt_size hz
    have nTz : T ≠ z := fun e => nT (by simp [e])
    have nT1 : T ≠ i1 := fun e => nT (by simp [e])
    have nT2 : T ≠ i2 := fun e => nT (by simp [e])
    refine wpAny_pyNext_zip_item_held D hz hT hTI h1 h2 p.isList p2.isList (x := u) (y := u2) (by simpa using hu) (by simpa using hu2) fun h' z' h1' h2' hT' hsz hk => ?_
    have new : ObjOk X.prog X.w (upd H s.heap.objs.size (.tup [x, y])) h' s.heap.objs.size (.tup [x, y]) :=
      ⟨by show 2 ≤ sizeLine; decide, [u, u2], .cons ru (.cons ru2 .nil), ⟨_, hT', rfl, _, rfl⟩⟩
    have I1 : Inv X pins σ (upd H s.heap.objs.size (.tup [x, y])) { s with heap := h' } :=
      I.turnedNew (t' := s.toks) (ch := [z, TI, TO, i1, i2]) (fun c o hb q => hk c o (fun q' => hb (by simp [q'])) (fun q' => hb (by simp [q'])) (fun q' => hb (by simp [q'])) q) hf (Nat.le_refl _) new
    refine ⟨rfl, I1, ⟨h1', h2', hk _ _ D.TIz D.TIi1 D.TIi2 hTI, ⟨_, hk _ _ D.TOz D.TOi1 D.TOi2 gO⟩, .inr ⟨T, true, oT, z', hk _ _ nTz nT1 nT2 hT, nT⟩⟩, hk _ _ Szz S1 S2 hS, ?_, ?_⟩
    · show s.heap.objs.size < h'.objs.size
      rw [hsz]; exact Nat.lt_succ_self _
    · simp only [List.mem_cons, List.not_mem_nil, or_false, not_or]
      exact ⟨Nat.ne_of_gt ltz, Nat.ne_of_gt ltT, Nat.ne_of_gt ltO, Nat.ne_of_gt lt1, Nat.ne_of_gt lt2, Nat.ne_of_gt ltS⟩
/-- the pairs at Ts -/
def Prs (H : Hp) (xs ys : List V) (Ts : List Addr) : Prop := ∀ (j : Nat) (T : Addr) (x y : V), Ts[j]? = some T → xs[j]? = some x → ys[j]? = some y → H T = some (.tup [x, y])
theorem zip_loop {A : Around} {R : Result → Shared → Prop} (hh : A.handled = none) (D : ZipApart z TI TO i1 i2 a b) (nS : S ∉ [z, TI, TO, i1, i2]) (hl : xs.length = ys.length) (hn : xs.length ≤ sizeLine) :
    ∀ (k i : Nat) (s : Shared) (H : Hp) (Ts : List Addr) (c : Nat), xs.length - i = k → i ≤ xs.length → Inv X pins σ H s → (∀ b ∈ [z, TI, TO, i1, i2, S], FpOk X pins H b) → SqL X.K H a xs → SqL X.K H b ys → ZSt a b z TI TO i1 i2 i s.heap →
    Ts.length = i → Prs H xs ys Ts → s.heap.get? S = some (lstO Ts c) →
    (∀ s' H' Ts' c', Inv X pins σ H' s' → Ts'.length = xs.length → L2.Same H H' → Prs H' xs ys Ts' → s'.heap.get? S = some (lstO Ts' c') → R (.ok (.ret (.ref S))) s') →
    codeAny (model X.prog X.w) A (.builtin "list.extend.loop" ⟨[.ref S, .ref z, .ref S], []⟩) R s := by
  intro k
  induction k with
  | zero =>
    intro i s H Ts c hk hi I hf hqx hqy Z lT hP hS hR
    have hin : i = xs.length := by omega
    subst hin
    refine codeAny_builtin F.entry_extend_loop ?_
    rw [Around.under_plainId F.plain_extend_loop _]
    show wpAny _ A.in1 (pyNext (.ref z) >>= _) _ _ s
    have hf5 : ∀ b ∈ [z, TI, TO, i1, i2], FpOk X pins H b := fun b hb => hf b (by simp only [List.mem_cons, List.not_mem_nil, or_false] at hb ⊢; rcases hb with h | h | h | h | h <;> simp [h])
    have Szz : S ≠ z := fun e => nS (by simp [e])
    have Sto : S ≠ TO := fun e => nS (by simp [e])
    have S1 : S ≠ i1 := fun e => nS (by simp [e])
    have S2 : S ≠ i2 := fun e => nS (by simp [e])
    obtain ⟨its, rv, p, _⟩ := I.list hqx
    obtain ⟨its2, rv2, p2, _⟩ := I.list hqy
    have l1 := rv.length
    obtain ⟨h1, h2, hTI, ⟨oO, gO⟩, st⟩ := Z
    rcases st with ⟨hz, x0, y0, hTO⟩ | ⟨T, f, oT, hz, hT, nT⟩
    · refine wpAny_bind (wpAny_pyNext_zip_end hh D hz hTI hTO h1 h2 p.isList p2.isList (.inl (by simp; omega)) fun h' hk => ?_)
      refine wpAny_pure (hR _ H Ts c (I.turnedL (t' := s.toks) (ch := [z, TI, TO, i1, i2]) (fun c o hb q => hk c o (fun q' => hb (by simp [q'])) (fun q' => hb (by simp [q'])) (fun q' => hb (by simp [q'])) (fun q' => hb (by simp [q'])) q) hf5) lT (fun _ _ e => e) hP (hk _ _ Szz Sto S1 S2 hS))
    · refine wpAny_bind (wpAny_pyNext_zip_end_held hh D hz hT hTI h1 h2 p.isList p2.isList (.inl (by simp; omega)) fun h' hk => ?_)
      refine wpAny_pure (hR _ H Ts c (I.turnedL (t' := s.toks) (ch := [z, TI, TO, i1, i2]) (fun c o hb q => hk c o (fun q' => hb (by simp [q'])) (fun q' => hb (by simp [q'])) (fun q' => hb (by simp [q'])) q) hf5) lT (fun _ _ e => e) hP (hk _ _ Szz S1 S2 hS))
  | succ k ih =>
    intro i s H Ts c hk hi I hf hqx hqy Z lT hP hS hR
    have hlt : i < xs.length := by omega
    refine codeAny_builtin F.entry_extend_loop ?_
    rw [Around.under_plainId F.plain_extend_loop _]
    show wpAny _ A.in1 (pyNext (.ref z) >>= _) _ _ s
    have hf5 : ∀ b ∈ [z, TI, TO, i1, i2], FpOk X pins H b := fun b hb => hf b (by simp only [List.mem_cons, List.not_mem_nil, or_false] at hb ⊢; rcases hb with h | h | h | h | h <;> simp [h])
    have hx : xs[i]? = some xs[i] := List.getElem?_eq_getElem hlt
    have hy : ys[i]? = some (ys[i]'(by omega)) := List.getElem?_eq_getElem (by omega)
    refine wpAny_bind (thn (zip_step (S := S) D nS I hf5 hqx hqy Z hS hx hy) fun r s1 ⟨er, I1, Z1, hS1, lt, nin⟩ => ?_)
    subst er
    have nT : H s.heap.objs.size = none := I.hok.fresh (Nat.le_refl _)
    have sm : L2.Same H (upd H s.heap.objs.size (.tup [xs[i], ys[i]'(by omega)])) := Same.at_new nT
    have hf1 : ∀ b ∈ [z, TI, TO, i1, i2, S], FpOk X pins (upd H s.heap.objs.size (.tup [xs[i], ys[i]'(by omega)])) b := fun b hb => by
      obtain ⟨g0, g⟩ := hf b hb
      exact ⟨by rw [upd_ne (fun e => nin (by rw [← e]; exact hb))]; exact g0, g⟩
    show wpAny _ A.in1 (updateSeq S (·.push (.ref s.heap.objs.size)) >>= _) _ _ _
    refine wpAny_bind ?_
    have e2 : (Ts.map Value.ref).toArray.push (.ref s.heap.objs.size) = ((Ts ++ [s.heap.objs.size]).map Value.ref).toArray := by simp
    refine wpAny_updateSeq hS1 rfl (wpAny_pure ⟨plainId_quiet F.plain_extend_loop _, ?_⟩) (by simp; omega) (by simp; omega)
    have hS2 := Heap.get?_update_self (Obj.mapSeq (·.push (Value.ref s.heap.objs.size))) hS1 rfl
    have I2 : Inv X pins σ (upd H s.heap.objs.size (.tup [xs[i], ys[i]'(by omega)])) { s1 with heap := s1.heap.update S (Obj.mapSeq (·.push (Value.ref s.heap.objs.size))) } :=
      I1.turnedL (t' := s1.toks) (ch := [S]) (fun c o hb q => (Heap.get?_update_other _ _ (fun e : S = c => hb (by simp [e]))).trans q) (fun b hb => hf1 b (by simp only [List.mem_singleton] at hb; simp [hb]))
    have oth : ∀ c o, c ≠ S → s1.heap.get? c = some o → (s1.heap.update S (Obj.mapSeq (·.push (Value.ref s.heap.objs.size)))).get? c = some o := fun c o hc q => (Heap.get?_update_other _ _ hc.symm).trans q
    have Z2 : ZSt a b z TI TO i1 i2 (i + 1) (s1.heap.update S (Obj.mapSeq (·.push (Value.ref s.heap.objs.size)))) := by
      obtain ⟨h1, h2, hTI, ⟨oO, gO⟩, st⟩ := Z1
      refine ⟨h1.at fun o q => oth _ o (fun e => nS (by simp [← e])) q, h2.at fun o q => oth _ o (fun e => nS (by simp [← e])) q, oth _ _ (fun e => nS (by simp [← e])) hTI, ⟨oO, oth _ _ (fun e => nS (by simp [← e])) gO⟩, ?_⟩
      rcases st with ⟨hz, x0, y0, hTO⟩ | ⟨T, f, oT, hz, hT, nT⟩
      · exact .inl ⟨oth _ _ (fun e => nS (by simp [← e])) hz, x0, y0, oth _ _ (fun e => nS (by simp [← e])) hTO⟩
      · by_cases hTS : T = S
        · subst hTS
          exact .inr ⟨T, f, _, oth _ _ (fun e => nS (by simp [← e])) hz, hS2, nT⟩
        · exact .inr ⟨T, f, oT, oth _ _ (fun e => nS (by simp [← e])) hz, oth _ _ hTS hT, nT⟩
    have hqx1 : SqL X.K (upd H s.heap.objs.size (.tup [xs[i], ys[i]'(by omega)])) a xs := sm.seq hqx
    have hqy1 : SqL X.K (upd H s.heap.objs.size (.tup [xs[i], ys[i]'(by omega)])) b ys := sm.seq hqy
    refine ih (i + 1) _ _ (Ts ++ [s.heap.objs.size]) (c + 1) (by omega) hlt I2 hf1 hqx1 hqy1 Z2 (by rw [List.length_append, lT]; rfl) (fun j T x y hT hx' hy' => ?_) ?_ (fun s' H' Ts' c' I' l' sm' P' S' => hR s' H' Ts' c' I' l' (fun p o e => sm' p o (sm p o e)) P' S')
    · by_cases hj : j < Ts.length
      · rw [List.getElem?_append_left hj] at hT
        exact sm _ _ (hP j T x y hT hx' hy')
      · rw [List.getElem?_append_right (by omega)] at hT
        have hj' : j - Ts.length < [s.heap.objs.size].length := (List.getElem?_eq_some_iff.mp hT).1
        have ej : j = i := by simp at hj'; omega
        subst ej
        rw [lT, Nat.sub_self] at hT
        cases hT
        rw [hx] at hx'
        rw [hy] at hy'
        cases hx'
        cases hy'
        exact upd_same
    · rw [hS2]
      simp [lstO, Obj.mapSeq]
theorem collect_zip {A : Around} {E : Value → Shared → Prop} {Q : List Value → Shared → Prop} {s : Shared} {H : Hp} (hh : A.handled = none) (D : ZipApart z TI TO i1 i2 a b) (hl : xs.length = ys.length) (hn : xs.length ≤ sizeLine)
    (I : Inv X pins σ H s) (hf : ∀ b ∈ [z, TI, TO, i1, i2], FpOk X pins H b) (hqx : SqL X.K H a xs) (hqy : SqL X.K H b ys) (Z : ZSt a b z TI TO i1 i2 0 s.heap) (hz : IsZip s.heap z TI TO .none)
    (hQ : ∀ s' H' Ts', Inv X pins σ H' s' → Ts'.length = xs.length → L2.Same H H' → Prs H' xs ys Ts' → Q (Ts'.map Value.ref) s') :
    wpAny (model X.prog X.w) A (collect (.ref z)) Q E s := by
  have lt1 : i1 < s.heap.objs.size := by obtain ⟨_, e, _⟩ := Z.h1; exact Heap.lt_size e
  have lt2 : i2 < s.heap.objs.size := by obtain ⟨_, e, _⟩ := Z.h2; exact Heap.lt_size e
  have ltT : TI < s.heap.objs.size := Heap.lt_size Z.hTI
  have ltO : TO < s.heap.objs.size := by obtain ⟨_, e⟩ := Z.hTO; exact Heap.lt_size e
  have ltz : z < s.heap.objs.size := Heap.lt_size hz
  have nS : s.heap.objs.size ∉ [z, TI, TO, i1, i2] := by
    simp only [List.mem_cons, List.not_mem_nil, or_false, not_or]
    exact ⟨Nat.ne_of_gt ltz, Nat.ne_of_gt ltT, Nat.ne_of_gt ltO, Nat.ne_of_gt lt1, Nat.ne_of_gt lt2⟩
  have hSI : s.heap.objs.size ≠ z := Nat.ne_of_gt ltz
  unfold collect
  refine wpAny_bind (wpAny_runValue (codeAny_builtin F.entry_proto_collect ?_))
  rw [Around.under_plainId F.plain_proto_collect _]
  show wpAny _ A.in1 (newList [] >>= fun l => again (.builtin "list.__iadd__" ⟨[l, .ref z], []⟩)) _ _ s
  refine wpAny_bind (wpAny_newObj_type ?_)
  refine wpAny_pure ⟨plainId_quiet F.plain_list_iadd _, codeAny_builtin F.entry_list_iadd ?_⟩
  rw [Around.under_plainId F.plain_list_iadd _]
  show wpAny _ A.in1 (Builtin.List.listExtendWith (.ref s.heap.objs.size) (.ref z) (.ref s.heap.objs.size)) _ _ _
  have up : ∀ c o, s.heap.get? c = some o → (s.heap.push { cls := .type "list", data := .seq ([] : List Value).toArray }).get? c = some o := fun c o e => Heap.get?_push_of_some _ e
  have hz₁ := up _ _ hz
  have hT : Shared.TypeIs { s with heap := s.heap.push { cls := .type "list", data := .seq ([] : List Value).toArray } } (.ref z) "zip" := ⟨_, hz₁, rfl⟩
  unfold Builtin.List.listExtendWith
  refine wpAny_bind (wpAny_typeOf hT ?_)
  have h1 : Builtin.List.listSameRef (.ref s.heap.objs.size) (.ref z) = false := by simp [Builtin.List.listSameRef, hSI]
  have h2 : (Value.type "zip" == Value.type "list") = false := by decide
  have h3 : (Value.type "zip" == Value.type "tuple") = false := by decide
  simp only [h1, h2, h3, Bool.or_false, Bool.false_eq_true, if_false]
  refine wpAny_bind (wpAny_pyIter_zip hz₁ ?_)
  refine wpAny_bind (wpAny_holding ?_)
  unfold Builtin.List.listLengthHint
  refine wpAny_bind (wpAny_specialOf hT zip_no_len ?_)
  show wpAny _ A.in1 (specialOf (Value.ref z) (Str.ofString "__length_hint__") >>= _) _ _ _
  refine wpAny_bind (wpAny_specialOf hT zip_no_hint ?_)
  refine wpAny_pure ?_
  show wpAny _ A.in1 (rule "list.extend.makes-room" >>= fun _ => Builtin.List.listTouch (.ref s.heap.objs.size) >>= fun _ =>
    again (.builtin "list.extend.loop" ⟨[.ref s.heap.objs.size, .ref z, .ref s.heap.objs.size], []⟩)) _ _ _
  refine wpAny_bind (wpAny_rule ?_)
  have hS₁ : (s.heap.push { cls := .type "list", data := .seq ([] : List Value).toArray }).get? s.heap.objs.size = some { cls := .type "list", data := .seq ([] : List Value).toArray } := Heap.get?_push_size _ rfl
  refine wpAny_bind ?_
  show wpAny _ A.in1 (updateSeq s.heap.objs.size (·.push .none) >>= fun _ => updateSeq s.heap.objs.size (·.pop)) _ _ _
  refine wpAny_bind (wpAny_updateSeq hS₁ rfl ?_)
  have hS₂ := Heap.get?_update_self (Obj.mapSeq (·.push Value.none)) hS₁ rfl
  refine wpAny_updateSeq hS₂ rfl ?_
  have hS₃ := Heap.get?_update_self (Obj.mapSeq (·.pop)) hS₂ rfl
  have oth : ∀ b o, b ≠ s.heap.objs.size → (s.heap.push { cls := .type "list", data := .seq ([] : List Value).toArray }).get? b = some o →
      (((s.heap.push { cls := .type "list", data := .seq ([] : List Value).toArray }).update s.heap.objs.size (Obj.mapSeq (·.push Value.none))).update s.heap.objs.size (Obj.mapSeq (·.pop))).get? b = some o :=
    fun b o hb e => (Heap.get?_update_other _ _ (Ne.symm hb)).trans ((Heap.get?_update_other _ _ (Ne.symm hb)).trans e)
  have keep : ∀ b o, s.heap.get? b = some o → (((s.heap.push { cls := .type "list", data := .seq ([] : List Value).toArray }).update s.heap.objs.size (Obj.mapSeq (·.push Value.none))).update s.heap.objs.size (Obj.mapSeq (·.pop))).get? b = some o :=
    fun b o e => oth b o (Nat.ne_of_lt (Heap.lt_size e)) (up _ _ e)
  have I1 : Inv X pins σ H { s with heap := (((s.heap.push { cls := .type "list", data := .seq ([] : List Value).toArray }).update s.heap.objs.size (Obj.mapSeq (·.push Value.none))).update s.heap.objs.size (Obj.mapSeq (·.pop))) } := I.kept (t' := s.toks) keep
  have hf6 : ∀ b ∈ [z, TI, TO, i1, i2, s.heap.objs.size], FpOk X pins H b := fun b hb => by
    by_cases e : b = s.heap.objs.size
    · subst e
      exact I.fpOk (Nat.le_refl _) (I.hok.fresh (Nat.le_refl _))
    · refine hf b ?_
      simp only [List.mem_cons, List.not_mem_nil, or_false] at hb ⊢
      rcases hb with h | h | h | h | h | h
      · simp [h]
      · simp [h]
      · simp [h]
      · simp [h]
      · simp [h]
      · exact absurd h e
  have Z1 : ZSt a b z TI TO i1 i2 0 (((s.heap.push { cls := .type "list", data := .seq ([] : List Value).toArray }).update s.heap.objs.size (Obj.mapSeq (·.push Value.none))).update s.heap.objs.size (Obj.mapSeq (·.pop))) := by
    obtain ⟨h1, h2, hTI, ⟨oO, gO⟩, st⟩ := Z
    refine ⟨h1.at fun o q => keep _ o q, h2.at fun o q => keep _ o q, keep _ _ hTI, ⟨oO, keep _ _ gO⟩, ?_⟩
    rcases st with ⟨hz, x0, y0, hTO⟩ | ⟨T, f, oT, hz, hT, nT⟩
    · exact .inl ⟨keep _ _ hz, x0, y0, keep _ _ hTO⟩
    · exact .inr ⟨T, f, oT, keep _ _ hz, keep _ _ hT, nT⟩
  refine wpAny_pure ⟨plainId_quiet F.plain_extend_loop _, zip_loop (X := X) (pins := pins) (σ := σ) hh D nS hl hn _ 0 _ H [] _ rfl (Nat.zero_le _) I1 hf6 hqx hqy Z1 rfl (fun j T x y h => by simp at h) hS₃ fun s' H' Ts' c' I' l' sm P' hS' => ?_⟩
  show wpAny _ A (load s.heap.objs.size >>= _) _ _ s'
  refine wpAny_bind (wpAny_load hS' ?_)
  refine wpAny_pure ?_
  show Q ((Ts'.map Value.ref).toArray.toList) s'
  rw [List.toList_toArray]
  exact hQ s' H' Ts' I' l' sm P'
theorem code_tuple_new_zip {A : Around} {E : Value → Shared → Prop} {Q₁ : Value → Shared → Prop} {s : Shared} {H : Hp} (hh : A.handled = none) (D : ZipApart z TI TO i1 i2 a b) (hl : xs.length = ys.length) (hn : xs.length ≤ sizeLine)
    (I : Inv X pins σ H s) (hf : ∀ b ∈ [z, TI, TO, i1, i2], FpOk X pins H b) (hqx : SqL X.K H a xs) (hqy : SqL X.K H b ys) (Z : ZSt a b z TI TO i1 i2 0 s.heap) (hz : IsZip s.heap z TI TO .none)
    (h : ∀ s' H' Ts', Inv X pins σ H' s' → Ts'.length = xs.length → L2.Same H H' → Prs H' xs ys Ts' → Q₁ (.ref s'.heap.objs.size) { s' with heap := s'.heap.push { cls := .type "tuple", data := .seq (Ts'.map Value.ref).toArray } }) :
    codeAny (model X.prog X.w) A (.call (.builtin "tuple.__new__") ⟨[.type "tuple", .ref z], []⟩) (wants Q₁ E) s := by
  refine codeAny_of_tree ?_
  show wpAny _ A.in1 (do checkBuiltinCall "tuple.__new__" ⟨[.type "tuple", .ref z], []⟩; again (.builtin "tuple.__new__" ⟨[.type "tuple", .ref z], []⟩)) _ _ s
  refine wpAny_bind (wpAny_of_eq (F.newCall_tuple_1 _) (wpAny_pure ⟨plainId_quiet F.plain_tuple_new _, codeAny_builtin F.entry_tuple_new ?_⟩))
  rw [Around.under_plainId F.plain_tuple_new _]
  have hsub := sub_tuple_self
  have hinit := init_tuple_lookup
  have hmh := madeHere_tuple
  have hTI : s.TypeIs (.ref z) "zip" := ⟨_, hz, rfl⟩
  have hh1 : A.in1.handled = none := hh
  wp_walk using wpAny_typeOf hTI, collect_zip (X := X) (pins := pins) (σ := σ) (A := A.in1) hh1 D hl hn I hf hqx hqy Z hz
  intro s' H' Ts' I' l' sm P'
  show wpAny _ _ (Builtin.Tuple.tupleExact (Ts'.map Value.ref).toArray >>= fun v => ret v) _ _ _
  unfold Builtin.Tuple.tupleExact
  refine wpAny_bind (wpAny_newObj_type ?_ (by show (Ts'.map Value.ref).toArray.size ≤ sizeLine; simp; omega))
  refine wpAny_pure ?_
  exact h s' H' Ts' I' l' sm P'
theorem call_tuple_zip {A : Around} {E : Value → Shared → Prop} {Q : Value → Shared → Prop} {s : Shared} {H : Hp} (hh : A.handled = none) (D : ZipApart z TI TO i1 i2 a b) (hl : xs.length = ys.length) (hn : xs.length ≤ sizeLine)
    (I : Inv X pins σ H s) (hf : ∀ b ∈ [z, TI, TO, i1, i2], FpOk X pins H b) (hqx : SqL X.K H a xs) (hqy : SqL X.K H b ys) (Z : ZSt a b z TI TO i1 i2 0 s.heap) (hz : IsZip s.heap z TI TO .none)
    (hQ : ∀ s' H' Ts', Inv X pins σ H' s' → Ts'.length = xs.length → L2.Same H H' → Prs H' xs ys Ts' → Q (.ref s'.heap.objs.size) { s' with heap := s'.heap.push { cls := .type "tuple", data := .seq (Ts'.map Value.ref).toArray } }) :
    wpAny (model X.prog X.w) A (call (.type "tuple") [.ref z]) Q E s := by
  refine callType_codes (Q₁ := fun obj s₁ => s₁.TypeIs obj "tuple" ∧ Q obj s₁) F.called_tuple (F.typeCall_tuple_1 _) F.entry_object_init
    (code_tuple_new_zip (X := X) (pins := pins) (σ := σ) (A := A.in1) hh D hl hn I hf hqx hqy Z hz fun s' H' Ts' I' l' sm P' => ⟨⟨_, Heap.get?_push_size _ rfl, rfl⟩, hQ s' H' Ts' I' l' sm P'⟩) fun obj s₁ h₁ => ?_
  exact ⟨h₁.1, F.args_object_init_2 obj _, object_init_meets F.called_tuple.init.lookup F.called_tuple.made (by decide) X.prog X.w A.in1 _ s₁ ⟨h₁.1, rfl, h₁.2⟩⟩
end
/-- tuple(zip(xs, ys)) -/
def tTupZip (K : PySem.W.Frag) (ta : TA) : TE := fun σ H Q => ta σ H fun vs H1 => ∃ a b xs ys, vs = [.ref a, .ref b] ∧ SqL K H1 a xs ∧ SqL K H1 b ys ∧ xs.length = ys.length ∧ xs.length ≤ 1000 ∧
  ∀ Ts H2 q, Ts.length = xs.length → L2.Same H1 H2 → Prs H2 xs ys Ts → H2 q = none → Q (.ref q) (upd H2 q (.tup (Ts.map V.ref)))
theorem vals_refs : ∀ Ts : List Addr, Vals (Ts.map V.ref) (Ts.map Value.ref)
  | [] => .nil
  | _ :: t => .cons rfl (vals_refs t)
theorem pe_tupZip {X : Cx} {e e2 : Expr} {ta : TA} {p p2 q pos : Pos} (hg : Gl X "tuple") (hm : X.mg "tuple" = none) (hg2 : Gl X "zip") (hm2 : X.mg "zip" = none) (ha : PA X [e, e2] ta) (hc : X.calm = true := by rfl)
    (hs : starEach [e, e2] X.env = (false, eval e X.env) :: starEach [e2] X.env := by rfl) (hpl : (backTo q (starEach [e2] X.env)).any (·.1) = false := by rfl) :
    PE X (.Call (.Name "tuple" p) [.Call (.Name "zip" p2) [e, e2] [] q] [] pos) (tTupZip X.K ta) := by
  refine ⟨fun pins s σ H Q I h => ?_⟩
  refine Call_ (ld_blt I hg hm boot_tuple ?_)
  refine PyProof.Rows.callWith_type1 (PyProof.Rows.args_cons ?_ rfl) rfl rfl
  refine Call_ (ld_blt I hg2 hm2 PyProof.Rows.boot_zip (PyProof.Rows.callWith_type1 (thn (ha.run q pins s σ H _ I h) fun us s1 ⟨vs, H1, I1, r1, q1⟩ => ?_) hs hpl))
  obtain ⟨a, b, xs, ys, ex, hqx, hqy, hl, hn, q1⟩ := q1
  subst ex
  cases r1 with
  | cons r rr =>
    cases rr with
    | cons r' rr =>
      cases rr
      cases r
      cases r'
      obtain ⟨its, rv, p1, _⟩ := I1.list hqx
      obtain ⟨its2, rv2, p2, _⟩ := I1.list hqy
      refine call_zip_2 p1.isList p2.isList fun h' hz hTI hTO h1 h2 hsz hk => ?_
      refine PyProof.Rows.args_nil ?_
      have I2 : Inv X pins σ H1 { s1 with heap := h' } := I1.kept (t' := s1.toks) hk
      have fresh5 : ∀ c, c ∈ [s1.heap.objs.size + 4, s1.heap.objs.size + 2, s1.heap.objs.size + 3, s1.heap.objs.size, s1.heap.objs.size + 1] → FpOk X pins H1 c := fun c hcm => by
        have e' : c = s1.heap.objs.size + 4 ∨ c = s1.heap.objs.size + 2 ∨ c = s1.heap.objs.size + 3 ∨ c = s1.heap.objs.size ∨ c = s1.heap.objs.size + 1 := by simpa using hcm
        have hle : s1.heap.objs.size ≤ c := by
          rcases e' with z | z | z | z | z <;> rw [z] <;> first | exact Nat.le_refl _ | exact Nat.le_add_right _ _
        exact I1.fpOk hle (I1.hok.fresh hle)
      refine call_tuple_zip (X := X) (pins := pins) (σ := σ) (I1.ok.hd hc) (PySem.W.ktu_apart s1.heap.objs.size a b p1.lt p2.lt) hl (by rw [sizeLine_eq]; omega) I2 fresh5 hqx hqy ⟨h1, h2, hTI, ⟨_, hTO⟩, .inl ⟨hz, _, _, hTO⟩⟩ hz fun s' H' Ts' I' l' sm P' => ?_
      have new : ObjOk X.prog X.w (upd H' s'.heap.objs.size (.tup (Ts'.map V.ref))) (s'.heap.push { cls := .type "tuple", data := .seq (Ts'.map Value.ref).toArray }) s'.heap.objs.size (.tup (Ts'.map V.ref)) :=
        ⟨by rw [List.length_map, l', sizeLine_eq]; omega, Ts'.map Value.ref, vals_refs Ts', IsTup.new _ _⟩
      exact ⟨.ref s'.heap.objs.size, _, I'.laid (t' := s'.toks) (fun b o e => Heap.get?_push_of_some _ e) (Nat.le_refl _) new, rfl, q1 Ts' H' _ l' sm P' (I'.hok.fresh (Nat.le_refl _))⟩
end Z3

namespace M56
open PySem PySem.Spec PyProof.Rows L2 SX Own Gd
open C8 (Cal pe_c pe_gc pe_mk Mak pss_cut)
def topS (i : Nat) : Stmt := PySem.Challenge.pw_paperbest_k56_whole_rounding_by_signs.main.body.getD i (.Pass ⟨0, 0, 0, 0⟩)
def inS (i j : Nat) : Stmt := match topS i with
  | .ClassDef _ _ _ b _ _ _ _ _ _ _ => b.getD j (.Pass ⟨0, 0, 0, 0⟩)
  | s => s
def wordsL : List Str := ["and", "bench", "if", "least", "or", "room", "round", "table", "then", "unlike"]
/-- what the text's top has: the tuple of words at aW, the dict of tests at aT -/
structure Txt (K : PySem.W.Frag) (mg : Str → Option Value) (w : World) (aW aT : Addr) (es : Array DictEntry) (n : Nat) : Prop where
  b_len : mg "len" = none
  b_range : mg "range" = none
  b_int : mg "int" = none
  b_abs : mg "abs" = none
  b_all : mg "all" = none
  b_sum : mg "sum" = none
  b_repr : mg "repr" = none
  b_tuple : mg "tuple" = none
  b_bool : mg "bool" = none
  b_str : mg "str" = none
  b_zip : mg "zip" = none
  b_any : mg "any" = none
  b_set : mg "set" = none
  b_enumerate : mg "enumerate" = none
  b_isinstance : mg "isinstance" = none
  c_LONGEST_NAME : ∃ u, mg "LONGEST_NAME" = some u ∧ RelV (.int 6) u
  c_LETTERS : ∃ u, mg "LETTERS" = some u ∧ RelV (.str "abcdefghijklmnopqrstuvwxyz") u
  c_WORDS : ∃ u, mg "WORDS" = some u ∧ RelV (.ref aW) u
  c_WISH_TESTS : ∃ u, mg "WISH_TESTS" = some u ∧ RelV (.ref aT) u
  qW : ∀ H, SqT K H aW (wordsL.map V.str)
  kd : KDict K w aT es n
/-! ### integers in tuples -/
def tI (a : List Int) : HO := .tup (a.map V.int)
def LV (H : Hp) (v : V) (a : List Int) : Prop := ∃ q, v = .ref q ∧ H q = some (tI a)
theorem LV.same {H H' : Hp} {v : V} {a : List Int} (h : LV H v a) (s : Same H H') : LV H' v a := by
  obtain ⟨q, e, f⟩ := h
  exact ⟨q, e, s _ _ f⟩
theorem at_map {α : Type} {f : α → V} {a : List α} {i : Nat} {x : V} (h : (a.map f)[i]? = some x) : ∃ c, a[i]? = some c ∧ x = f c := by
  rw [List.getElem?_map] at h
  obtain ⟨c, hc, e⟩ := Option.map_eq_some_iff.mp h
  exact ⟨c, hc, e.symm⟩
theorem small1000 {n : Nat} (h : n < 1000) : n < sizeLine := by rw [sizeLine_eq]; omega
theorem small1001 {n : Nat} (h : n ≤ 1000) : n ≤ sizeLine := by rw [sizeLine_eq]; omega
theorem take_one {α : Type} {a : List α} {i : Nat} {c : α} (h : a[i]? = some c) : a.take (i + 1) = a.take i ++ [c] := by rw [List.take_add_one, h]; rfl
/-- each less than the next one -/
def Inc (a : List Int) : Prop := ∀ i x y, a[i]? = some x → a[i + 1]? = some y → x < y
def Within (n : Nat) (a : List Int) : Prop := ∀ c ∈ a, 0 ≤ c ∧ c < n
theorem reps {i : Nat} : (List.replicate i true).all id = true := by simp
theorem rep_app {i : Nat} : (List.replicate (i + 1) true).map V.bl = (List.replicate i true).map V.bl ++ [V.bl true] := by rw [List.replicate_succ', List.map_append]; rfl
theorem cut_tail {xs : List V} (h : 1 ≤ xs.length) : cutV xs (some 1) none = xs.drop 1 := by
  unfold cutV
  rw [show (some 1 : Option Int) = some ((1 : Nat) : Int) from rfl, HT.sIx_nat, HT.sIx_none, Nat.min_eq_left h, List.take_of_length_le (by rw [List.length_drop]; omega)]
section
variable {P : Program} {w : World} {K : PySem.W.Frag} {mg : Str → Option Value} {base : Heap} {aW aT : Addr} {es : Array DictEntry} {nn : Nat}
abbrev s_is_whole : Stmt := topS 4
abbrev n_is_whole : List Str := ["value"]
theorem sc_is_whole : FnScope n_is_whole ["value"] (defScope s_is_whole) := ⟨rfl, rfl, rfl, by decide +kernel, rfl, by decide +kernel, by decide +kernel⟩
def spWhole : Sp := fun vs H Q _ => ∃ i : Int, vs = [.int i] ∧ Q (.bl true) H
theorem ok_is_whole {f : Addr} {fd : FuncData} (F : Fun K "is_whole" "is_whole" s_is_whole f fd) (T : Txt K mg w aW aT es nn) : FnOk P w K mg base CX0 1 f fd ["value"] spWhole := by
  refine F.ok sc_is_whole (fun vs H Q E h => ?_) (fun cdv A outer s H vs Q E hr h => ?_)
  · obtain ⟨i, rfl, _⟩ := h
    rfl
  · obtain ⟨i, rfl, q⟩ := h
    refine ⟨_, (pss_one (ps_ret (pe_and (pe_callB call_isE (by rfl) T.b_isinstance (by decide +kernel) (pa_cons (pv 0) (pa_cons (pe_bltn (v := .ty "int") (by rfl) T.b_int boot_int rfl) pa_nil))) (pe_one (pe_not (pe_callB call_isE (by rfl) T.b_isinstance (by decide +kernel) (pa_cons (pv 0) (pa_cons (pe_bltn (v := .ty "bool") (by rfl) T.b_bool boot_bool rfl) pa_nil)))))))), ?_⟩
    exact ⟨_, rfl, .int i, .type "int", "int", true, rfl, .base (.base (.int i)), by rfl, true, rfl, iteT ⟨_, rfl, .int i, .type "int", "bool", false, rfl, .base (.base (.int i)), by rfl, false, rfl, q⟩⟩
abbrev s_is_places : Stmt := topS 10
abbrev n_is_places : List Str := ["value", "size", "item"]
theorem sc_is_places : FnScope n_is_places ["value", "size"] (defScope s_is_places) := ⟨rfl, rfl, rfl, by decide +kernel, rfl, by decide +kernel, by decide +kernel⟩
def spPlaces : Sp := fun vs H Q _ => ∃ (v : V) (n : Nat) (a : List Int), vs = [v, .int n] ∧ LV H v a ∧ Within n a ∧ a.length ≤ 1000 ∧ ∀ H', Same H H' → Q (.bl true) H'
theorem ok_is_places {f : Addr} {fd : FuncData} (F : Fun K "is_places" "is_places" s_is_places f fd) (T : Txt K mg w aW aT es nn) (c_is_whole : Cal P w K mg base 1 "is_whole" spWhole []) : FnOk P w K mg base CX0 2 f fd ["value", "size"] spPlaces := by
  refine F.ok sc_is_places (fun vs H Q E h => ?_) (fun cdv A outer s H vs Q E hr h => ?_)
  · obtain ⟨v, n, a, rfl, _⟩ := h
    rfl
  · obtain ⟨v, n, a, rfl, ⟨p, rfl, hp⟩, wi, la, q⟩ := h
    refine ⟨_, (pss_cons (ps_if (pt_not (pt_val (pe_callB call_isE (by rfl) T.b_isinstance (by decide +kernel) (pa_cons (pv 0) (pa_cons (pe_bltn (v := .ty "tuple") (by rfl) T.b_tuple boot_tuple rfl) pa_nil))))) (pss_one (ps_ret pe_bl)) pss_nil)
      (pss_one (ps_ret (pe_callB (cr_all rfl) (by rfl) T.b_all (by decide +kernel) (pa_cons (pe_lc (own := [("item", 2)]) rfl sc_is_places.nd (pi_tup (pv 0)) (blkOk_by (N := n_is_places) (sc := defScope s_is_places) (by decide +kernel)) (fun _ _ _ _ _ => (pg_name (i := 2) sc_is_places.nd rfl (.inl rfl))) (fun _ _ _ _ _ => pts_nil) (fun _ _ _ _ _ => (pe_and (pe_c c_is_whole hr (by decide) (by rfl) (pa_cons (pv 2) pa_nil)) (pe_one (pe_chain op_le op_lt pe_int (pv 2) (pv 1)))))) pa_nil))))), ?_⟩
    refine ⟨_, rfl, .ref p, .type "tuple", "tuple", true, rfl, .base (.base (.tup hp)), by rfl, true, rfl, iteF ?_⟩
    refine ⟨_, rfl, p, rfl, ⟨_, sq_tup hp⟩, fun D nD => ?_⟩
    refine lc_tup (K := K) (a := p) (xs := a.map V.int) (fun i H' => H' D = some (.lst ((List.replicate i true).map V.bl)) ∧ Same H H') ⟨upd_same, same_upd nD⟩ (fun i H' _ h => sq_tup (h.2 _ _ hp)) ?_ ?_
    · rintro i x H2 hx ⟨hD, sm⟩
      obtain ⟨c, hc, rfl⟩ := at_map hx
      have li : i < a.length := (List.getElem?_eq_some_iff.mp hc).1
      obtain ⟨c0, c1⟩ := wi c (List.mem_of_getElem? hc)
      refine ⟨rfl, _, rfl, c, rfl, true, rfl, iteT ⟨_, rfl, _, _, rfl, rfl, _, rfl, ite2 (fun _ => ?_) (fun h => absurd (decide_eq_true c0) h)⟩⟩
      refine ⟨_, rfl, _, _, rfl, rfl, _, hD, (by rw [List.length_map, List.length_replicate]; exact small1000 (by omega)), ?_, same_at sm nD⟩
      rw [upd_same, rep_app, show (fun i j : Int => V.bl (decide (i < j))) c n = V.bl true from congrArg V.bl (decide_eq_true c1)]
    · rintro H2 ⟨hD, sm⟩
      refine ⟨D, _, rfl, sq_lst hD, ?_⟩
      rw [reps]
      exact q _ sm
abbrev s_is_integers : Stmt := topS 11
abbrev n_is_integers : List Str := ["value", "many", "item"]
theorem sc_is_integers : FnScope n_is_integers ["value", "many"] (defScope s_is_integers) := ⟨rfl, rfl, rfl, by decide +kernel, rfl, by decide +kernel, by decide +kernel⟩
def spInts : Sp := fun vs H Q _ => ∃ (v : V) (a : List Int), vs = [v, .int (a.length : Nat)] ∧ LV H v a ∧ a.length ≤ 1000 ∧ ∀ H', Same H H' → Q (.bl true) H'
theorem ok_is_integers {f : Addr} {fd : FuncData} (F : Fun K "is_integers" "is_integers" s_is_integers f fd) (T : Txt K mg w aW aT es nn) (c_is_whole : Cal P w K mg base 1 "is_whole" spWhole []) : FnOk P w K mg base CX0 2 f fd ["value", "many"] spInts := by
  refine F.ok sc_is_integers (fun vs H Q E h => ?_) (fun cdv A outer s H vs Q E hr h => ?_)
  · obtain ⟨v, a, rfl, _⟩ := h
    rfl
  · obtain ⟨v, a, rfl, ⟨p, rfl, hp⟩, la, q⟩ := h
    refine ⟨_, (pss_cons (ps_if (PW.pt (pw_or (pt_not (pt_val (pe_callB call_isE (by rfl) T.b_isinstance (by decide +kernel) (pa_cons (pv 0) (pa_cons (pe_bltn (v := .ty "tuple") (by rfl) T.b_tuple boot_tuple rfl) pa_nil))))) (pw_or1 (pt_cmpR op_ne (pe_callB call_len_seq (by rfl) T.b_len (by decide +kernel) (pa_cons (pv 0) pa_nil)) (pv 1) (nomark _))))) (pss_one (ps_ret pe_bl)) pss_nil)
      (pss_one (ps_ret (pe_callB (cr_all rfl) (by rfl) T.b_all (by decide +kernel) (pa_cons (pe_lc (own := [("item", 2)]) rfl sc_is_integers.nd (pi_tup (pv 0)) (blkOk_by (N := n_is_integers) (sc := defScope s_is_integers) (by decide +kernel)) (fun _ _ _ _ _ => (pg_name (i := 2) sc_is_integers.nd rfl (.inl rfl))) (fun _ _ _ _ _ => pts_nil) (fun _ _ _ _ _ => (pe_c c_is_whole hr (by decide) (by rfl) (pa_cons (pv 2) pa_nil)))) pa_nil))))), ?_⟩
    refine ⟨_, rfl, .ref p, .type "tuple", "tuple", true, rfl, .base (.base (.tup hp)), by rfl, true, rfl, iteF ?_⟩
    refine ⟨_, rfl, p, _, rfl, .inr (sq_tup hp), _, rfl, rfl, _, rfl, ite2 (fun h => absurd h (by simp)) (fun _ => ?_)⟩
    refine ⟨_, rfl, p, rfl, ⟨_, sq_tup hp⟩, fun D nD => ?_⟩
    refine lc_tup (K := K) (a := p) (xs := a.map V.int) (fun i H' => H' D = some (.lst ((List.replicate i true).map V.bl)) ∧ Same H H') ⟨upd_same, same_upd nD⟩ (fun i H' _ h => sq_tup (h.2 _ _ hp)) ?_ ?_
    · rintro i x H2 hx ⟨hD, sm⟩
      obtain ⟨c, hc, rfl⟩ := at_map hx
      have li : i < a.length := (List.getElem?_eq_some_iff.mp hc).1
      refine ⟨rfl, _, rfl, c, rfl, _, hD, (by rw [List.length_map, List.length_replicate]; exact small1000 (by omega)), ?_, same_at sm nD⟩
      rw [upd_same, rep_app]
    · rintro H2 ⟨hD, sm⟩
      refine ⟨D, _, rfl, sq_lst hD, ?_⟩
      rw [reps]
      exact q _ sm
abbrev s_is_lot_of_places : Stmt := topS 9
abbrev n_is_lot_of_places : List Str := ["value", "size", "one", "other"]
theorem sc_is_lot_of_places : FnScope n_is_lot_of_places ["value", "size"] (defScope s_is_lot_of_places) := ⟨rfl, rfl, rfl, by decide +kernel, rfl, by decide +kernel, by decide +kernel⟩
def spLot : Sp := fun vs H Q _ => ∃ (v : V) (n : Nat) (a : List Int), vs = [v, .int n] ∧ LV H v a ∧ Within n a ∧ Inc a ∧ 2 ≤ a.length ∧ a.length ≤ 1000 ∧ ∀ H', Same H H' → Q (.bl true) H'
theorem ok_is_lot_of_places {f : Addr} {fd : FuncData} (F : Fun K "is_lot_of_places" "is_lot_of_places" s_is_lot_of_places f fd) (T : Txt K mg w aW aT es nn) (c_is_places : Cal P w K mg base 2 "is_places" spPlaces []) : FnOk P w K mg base CX0 3 f fd ["value", "size"] spLot := by
  refine F.ok sc_is_lot_of_places (fun vs H Q E h => ?_) (fun cdv A outer s H vs Q E hr h => ?_)
  · obtain ⟨v, n, a, rfl, _⟩ := h
    rfl
  · obtain ⟨v, n, a, rfl, ⟨p, rfl, hp⟩, wi, inc, l2, la, q⟩ := h
    refine ⟨_, (pss_cons (ps_if (pt_not (pt_val (pe_c c_is_places hr (by decide) (by rfl) (pa_cons (pv 0) (pa_cons (pv 1) pa_nil))))) (pss_one (ps_ret pe_bl)) pss_nil)
      (pss_one (ps_ret (pe_callB (cr_all rfl) (by rfl) T.b_all (by decide +kernel) (pa_cons (pe_lc (own := [("one", 2), ("other", 3)]) (g := gTup K 2 (gCons (gName 2) (gCons (gName 3) gNil))) rfl sc_is_lot_of_places.nd (RZ.pi_zipA (by rfl) T.b_zip (pa_cons (pv 0) (pa_cons (pe_slice sl_tupA (pv 0) (po_some pe_int) po_none) pa_nil))) (blkOk_by (N := n_is_lot_of_places) (sc := defScope s_is_lot_of_places) (by decide +kernel)) (fun _ _ _ _ _ => (pg_tup rfl (pgs_cons (pg_name (i := 2) sc_is_lot_of_places.nd rfl (.inl rfl)) (pgs_cons (pg_name (i := 3) sc_is_lot_of_places.nd rfl (.inl rfl)) pgs_nil)))) (fun _ _ _ _ _ => pts_nil) (fun _ _ _ _ _ => (pe_cmpR op_lt (pv 2) (pv 3) (nomark _)))) pa_nil))))), ?_⟩
    refine ⟨_, rfl, _, rfl, .ref p, n, a, rfl, ⟨p, rfl, hp⟩, wi, la, fun H1 s1 => ⟨true, rfl, iteF ?_⟩⟩
    have hp1 := s1 _ _ hp
    have lm : (a.map V.int).length = a.length := List.length_map ..
    refine ⟨_, rfl, _, rfl, _, rfl, p, _, rfl, sq_tup hp1, fun z => ?_, fun _ y ny => ?_⟩
    · exfalso
      have z := z.1
      rw [show (some 1 : Option Int) = some ((1 : Nat) : Int) from rfl, HT.sIx_nat, lm] at z
      omega
    rw [cut_tail (by omega)]
    have k2 := same_upd (o := .tup ((a.map V.int).drop 1)) ny
    have e2 : upd H1 y (.tup ((a.map V.int).drop 1)) y = some (.tup ((a.map V.int).drop 1)) := upd_same
    generalize upd H1 y (.tup ((a.map V.int).drop 1)) = H2 at *
    have hp2 := k2 _ _ hp1
    refine ⟨p, y, _, _, rfl, .inr ⟨sq_tup hp2, sq_tup e2, fun D nD => ?_⟩⟩
    refine lc_zipM (K := K) (a := p) (b := y) (xs := a.map V.int) (ys := (a.map V.int).drop 1) (a.length - 1) (by rw [List.length_drop, lm]; omega)
      (fun i H' => H' D = some (.lst ((List.replicate i true).map V.bl)) ∧ Same H2 H') ⟨upd_same, same_upd nD⟩ (fun i H' h => ⟨sq_tup (h.2 _ _ hp2), sq_tup (h.2 _ _ e2)⟩) ?_ ?_
    · rintro i c d T' H3 hc hd ⟨hD, sm⟩ nT
      obtain ⟨c, hc', rfl⟩ := at_map hc
      rw [List.getElem?_drop, Nat.add_comm] at hd
      obtain ⟨d, hd', rfl⟩ := at_map hd
      have li : i < a.length := (List.getElem?_eq_some_iff.mp hc').1
      have DT : D ≠ T' := ne_of_none hD nT
      have lt := inc i c d hc' hd'
      refine ⟨T', _, rfl, sq_tup upd_same, rfl, _, _, rfl, _, _, rfl, rfl, rfl, ?_⟩
      refine ⟨_, rfl, _, rfl, _, _, rfl, rfl, _, (by rw [upd_ne DT]; exact hD), (by rw [List.length_map, List.length_replicate]; exact small1000 (by omega)), ?_, same_at (same_at sm (sm.free nT)) nD⟩
      rw [upd_same, rep_app, show (fun i j : Int => V.bl (decide (i < j))) c d = V.bl true from congrArg V.bl (decide_eq_true lt)]
    · rintro H3 ⟨hD, sm⟩
      refine ⟨D, _, rfl, sq_lst hD, ?_⟩
      rw [reps]
      exact q _ ((s1.trans k2).trans sm)
end
end M56

namespace M56
open PySem PySem.Spec PyProof.Rows L2 SX Own Gd
open C8 (Cal pe_c pe_gc pe_mk Mak pss_cut)
/-! ### wishes -/
inductive LVs (H : Hp) : List V → List (List Int) → Prop
  | nil : LVs H [] []
  | cons {v : V} {vs : List V} {a : List Int} {as : List (List Int)} : LV H v a → LVs H vs as → LVs H (v :: vs) (a :: as)
theorem LVs.same {H H' : Hp} (s : Same H H') : ∀ {vs : List V} {as : List (List Int)}, LVs H vs as → LVs H' vs as
  | _, _, .nil => .nil
  | _, _, .cons h t => .cons (h.same s) (t.same s)
theorem LVs.len {H : Hp} : ∀ {vs : List V} {as : List (List Int)}, LVs H vs as → vs.length = as.length
  | _, _, .nil => rfl
  | _, _, .cons _ t => congrArg (· + 1) t.len
theorem LVs.at_ {H : Hp} : ∀ {vs : List V} {as : List (List Int)} {i : Nat} {v : V}, LVs H vs as → vs[i]? = some v → ∃ a, as[i]? = some a ∧ LV H v a
  | _, _, 0, _, .cons h t, e => by
    cases e
    exact ⟨_, rfl, h⟩
  | _, _, i + 1, _, .cons h t, e => by
    obtain ⟨r, e1, e2⟩ := t.at_ (i := i) (by simpa using e)
    exact ⟨r, by simpa using e1, e2⟩
/-- jobs of integers -/
def JV (H : Hp) (v : V) (js : List (List Int)) : Prop := ∃ p us, v = .ref p ∧ H p = some (.tup us) ∧ LVs H us js
theorem JV.same {H H' : Hp} {v : V} {js : List (List Int)} (h : JV H v js) (s : Same H H') : JV H' v js := by
  obtain ⟨p, us, e, f, g⟩ := h
  exact ⟨p, us, e, s _ _ f, g.same s⟩
def placeOf (j : List Int) : Int := j.getD 0 0
structure JobsOk (size many : Nat) (js : List (List Int)) : Prop where
  two : 2 ≤ js.length
  few : js.length ≤ 100
  len : ∀ j ∈ js, j.length = many
  one : ∀ j ∈ js, ∀ c ∈ j.drop 1, 1 ≤ c
  inc : Inc (js.map placeOf)
  wi : Within size (js.map placeOf)
/-- a row: coefficients, whether equal, the bound -/
structure Row where
  am : List Int
  eq : Bool
  bd : Int
def RV (H : Hp) (v : V) (r : Row) : Prop := ∃ p q, v = .ref p ∧ H p = some (.tup [.str "sum", .ref q, .bl r.eq, .int r.bd]) ∧ H q = some (tI r.am)
theorem RV.same {H H' : Hp} {v : V} {r : Row} (h : RV H v r) (s : Same H H') : RV H' v r := by
  obtain ⟨p, q, e, f, g⟩ := h
  exact ⟨p, q, e, s _ _ f, s _ _ g⟩
structure RowOk (n : Nat) (r : Row) : Prop where
  len : r.am.length = n
  nz : ∃ c ∈ r.am, c ≠ 0
  bd : ∀ c ∈ r.am, -1000 ≤ c ∧ c ≤ 1000
inductive Wish
  | sum (r : Row)
  | unlike (a : List Int)
  | bench (js : List (List Int))
  | table (a : List Int) (ls : List (List Int))
def WV (H : Hp) (v : V) : Wish → Prop
  | .sum r => RV H v r
  | .unlike a => ∃ p u, v = .ref p ∧ H p = some (.tup [.str "unlike", u]) ∧ LV H u a
  | .bench js => ∃ p u, v = .ref p ∧ H p = some (.tup [.str "bench", u]) ∧ JV H u js
  | .table a ls => ∃ p u t, v = .ref p ∧ H p = some (.tup [.str "table", u, t]) ∧ LV H u a ∧ JV H t ls
theorem WV.same {H H' : Hp} {v : V} {x : Wish} (h : WV H v x) (s : Same H H') : WV H' v x := by
  cases x with
  | sum r => exact RV.same h s
  | unlike a =>
    obtain ⟨p, u, e, f, g⟩ := h
    exact ⟨p, u, e, s _ _ f, g.same s⟩
  | bench js =>
    obtain ⟨p, u, e, f, g⟩ := h
    exact ⟨p, u, e, s _ _ f, g.same s⟩
  | table a ls =>
    obtain ⟨p, u, t, e, f, g, k⟩ := h
    exact ⟨p, u, t, e, s _ _ f, g.same s, k.same s⟩
/-- each lot below the next one -/
def IncL (ls : List (List Int)) : Prop := ∀ i x y, ls[i]? = some x → ls[i + 1]? = some y → HT.lexLt x y = true
structure TabOk (n : Nat) (a : List Int) (ls : List (List Int)) : Prop where
  wi : Within n a
  nd : a.Nodup
  l1 : 1 ≤ a.length
  few : a.length ≤ 100
  t1 : 1 ≤ ls.length
  tf : ls.length ≤ 100
  len : ∀ l ∈ ls, l.length = a.length
  inc : IncL ls
def WishOk (size : Nat) : Wish → Prop
  | .sum r => RowOk size r ∧ size ≤ 100
  | .unlike a => Within size a ∧ Inc a ∧ 2 ≤ a.length ∧ a.length ≤ 1000
  | .bench js => JobsOk size 2 js
  | .table a ls => TabOk size a ls
section
variable {P : Program} {w : World} {K : PySem.W.Frag} {mg : Str → Option Value} {base : Heap} {aW aT : Addr} {es : Array DictEntry} {nn : Nat}
abbrev s_is_unlike : Stmt := topS 13
abbrev n_is_unlike : List Str := ["value", "size"]
theorem sc_is_unlike : FnScope n_is_unlike ["value", "size"] (defScope s_is_unlike) := ⟨rfl, rfl, rfl, by decide +kernel, rfl, by decide +kernel, by decide +kernel⟩
def spUnlike : Sp := fun vs H Q _ => ∃ (p : Addr) (k : V) (v : V) (n : Nat) (a : List Int), vs = [.ref p, .int n] ∧ H p = some (.tup [k, v]) ∧ LV H v a ∧ Within n a ∧ Inc a ∧ 2 ≤ a.length ∧ a.length ≤ 1000 ∧ ∀ H', Same H H' → Q (.bl true) H'
theorem ok_is_unlike {f : Addr} {fd : FuncData} (F : Fun K "_is_unlike" "_is_unlike" s_is_unlike f fd) (T : Txt K mg w aW aT es nn) (c_is_lot_of_places : Cal P w K mg base 3 "is_lot_of_places" spLot []) : FnOk P w K mg base CX0 4 f fd ["value", "size"] spUnlike := by
  refine F.ok sc_is_unlike (fun vs H Q E h => ?_) (fun cdv A outer s H vs Q E hr h => ?_)
  · obtain ⟨p, k, v, n, a, rfl, _⟩ := h
    rfl
  · obtain ⟨p, k, v, n, a, rfl, hp, ⟨qa, rfl, hq⟩, wi, inc, l2, la, q⟩ := h
    refine ⟨_, (pss_one (ps_ret (pe_and (pe_cmpR op_eq (pe_callB call_len_seq (by rfl) T.b_len (by decide +kernel) (pa_cons (pv 0) pa_nil)) pe_int (nomark _)) (pe_and (pe_c c_is_lot_of_places hr (by decide) (by rfl) (pa_cons (pe_ix ix_tup (pv 0) pe_int (fun _ _ => rfl)) (pa_cons (pv 1) pa_nil))) (pe_one (pe_cmpR op_ge (pe_callB call_len_seq (by rfl) T.b_len (by decide +kernel) (pa_cons (pe_ix ix_tup (pv 0) pe_int (fun _ _ => rfl)) pa_nil)) pe_int (nomark _))))))), ?_⟩
    refine ⟨_, rfl, p, _, rfl, .inr (sq_tup hp), rfl, true, rfl, iteT ?_⟩
    refine ⟨_, rfl, p, _, 1, _, rfl, rfl, sq_tup hp, rfl, _, rfl, .ref qa, n, a, rfl, ⟨qa, rfl, hq⟩, wi, inc, l2, la, fun H1 s1 => ⟨true, rfl, iteT ?_⟩⟩
    refine ⟨_, rfl, p, _, 1, _, rfl, rfl, sq_tup (s1 _ _ hp), rfl, qa, _, rfl, .inr (sq_tup (s1 _ _ hq)), _, _, rfl, rfl, ?_⟩
    rw [show (fun i j : Int => V.bl (decide (j ≤ i))) ((a.map V.int).length : Nat) 2 = V.bl true from congrArg V.bl (decide_eq_true (by rw [List.length_map]; omega))]
    exact q _ s1
abbrev s_is_jobs : Stmt := topS 18
abbrev n_is_jobs : List Str := ["value", "size", "many", "job", "item"]
theorem sc_is_jobs : FnScope n_is_jobs ["value", "size", "many"] (defScope s_is_jobs) := ⟨rfl, rfl, rfl, by decide +kernel, rfl, by decide +kernel, by decide +kernel⟩
def spJobs : Sp := fun vs H Q _ => ∃ (v : V) (n many : Nat) (js : List (List Int)), vs = [v, .int n, .int many] ∧ JV H v js ∧ JobsOk n many js ∧ 1 ≤ many ∧ many ≤ 5 ∧ ∀ H', Same H H' → Q (.bl true) H'
theorem ok_is_jobs {f : Addr} {fd : FuncData} (F : Fun K "_is_jobs" "_is_jobs" s_is_jobs f fd) (T : Txt K mg w aW aT es nn) (c_is_integers : Cal P w K mg base 2 "is_integers" spInts []) (c_is_lot_of_places : Cal P w K mg base 3 "is_lot_of_places" spLot []) : FnOk P w K mg base CX0 4 f fd ["value", "size", "many"] spJobs := by
  refine F.ok sc_is_jobs (fun vs H Q E h => ?_) (fun cdv A outer s H vs Q E hr h => ?_)
  · obtain ⟨v, n, many, js, rfl, _⟩ := h
    rfl
  · obtain ⟨v, n, many, js, rfl, ⟨p, us, rfl, hp, lv⟩, ok, m1, m5, q⟩ := h
    have ul := lv.len
    have two := ok.two
    have few := ok.few
    refine ⟨_, (pss_cons (ps_if (PW.pt (pw_or (pt_not (pt_val (pe_callB call_isE (by rfl) T.b_isinstance (by decide +kernel) (pa_cons (pv 0) (pa_cons (pe_bltn (v := .ty "tuple") (by rfl) T.b_tuple boot_tuple rfl) pa_nil))))) (pw_or1 (pt_cmpR op_lt (pe_callB call_len_seq (by rfl) T.b_len (by decide +kernel) (pa_cons (pv 0) pa_nil)) pe_int (nomark _))))) (pss_one (ps_ret pe_bl)) pss_nil)
      (pss_cons (ps_if (pt_not (pt_val (pe_callB (cr_all rfl) (by rfl) T.b_all (by decide +kernel) (pa_cons (pe_lc (own := [("job", 3)]) rfl sc_is_jobs.nd (pi_tup (pv 0)) (blkOk_by (N := n_is_jobs) (sc := defScope s_is_jobs) (by decide +kernel)) (fun _ _ _ _ _ => (pg_name (i := 3) sc_is_jobs.nd rfl (.inl rfl))) (fun _ _ _ _ _ => pts_nil) (fun _ _ _ _ _ => (pe_c c_is_integers hr (by decide) (by rfl) (pa_cons (pv 3) (pa_cons (pv 2) pa_nil))))) pa_nil)))) (pss_one (ps_ret pe_bl)) pss_nil)
      (pss_cons (ps_if (pt_not (pt_val (pe_c c_is_lot_of_places hr (by decide) (by rfl) (pa_cons (pe_callTy call_tuple_of (by rfl) T.b_tuple (by decide +kernel) (pa_cons (pe_lc (own := [("job", 3)]) rfl sc_is_jobs.nd (pi_tup (pv 0)) (blkOk_by (N := n_is_jobs) (sc := defScope s_is_jobs) (by decide +kernel)) (fun _ _ _ _ _ => (pg_name (i := 3) sc_is_jobs.nd rfl (.inl rfl))) (fun _ _ _ _ _ => pts_nil) (fun _ _ _ _ _ => (pe_ix (r := rIxT K) ix_tup (pv 3) pe_int (fun _ _ => rfl)))) pa_nil)) (pa_cons (pv 1) pa_nil))))) (pss_one (ps_ret pe_bl)) pss_nil)
      (pss_one (ps_ret (pe_callB (cr_all rfl) (by rfl) T.b_all (by decide +kernel) (pa_cons (pe_lc2 (wi1 := iTup K (tSl (rSlA K) (tVar 3) (tPart (tC (V.int 1))) tNoPart)) (own := [("job", 3), ("item", 4)]) (vs1 := [4]) rfl sc_is_jobs.nd (pi_tup (pv 0)) (blkOk_by (N := n_is_jobs) (sc := defScope s_is_jobs) (by decide +kernel)) (by decide) (fun _ _ _ _ _ => (pg_name (i := 3) sc_is_jobs.nd rfl (.inl rfl))) (fun _ _ _ _ _ => pts_nil) (fun _ _ _ _ _ => (pi_tup (pe_slice (r := rSlA K) sl_tupA (pv 3) (po_some pe_int) po_none))) (fun _ _ _ _ _ => (pg_name (i := 4) sc_is_jobs.nd rfl (.inl rfl))) (fun _ _ _ _ _ => pts_nil) (fun _ _ _ _ _ => (pe_cmpR op_ge (pv 4) pe_int (nomark _)))) pa_nil))))))), ?_⟩
    refine ⟨_, rfl, .ref p, .type "tuple", "tuple", true, rfl, .base (.base (.tup hp)), by rfl, true, rfl, iteF ?_⟩
    refine ⟨_, rfl, p, _, rfl, .inr (sq_tup hp), _, _, rfl, rfl, _, rfl, ite2 (fun h => ?_) (fun _ => ?_)⟩
    · exfalso
      have h := of_decide_eq_true h
      omega
    refine ⟨_, rfl, p, rfl, ⟨_, sq_tup hp⟩, fun D nD => ?_⟩
    refine lc_tup (K := K) (a := p) (xs := us) (fun i H' => H' D = some (.lst ((List.replicate i true).map V.bl)) ∧ Same H H') ⟨upd_same, same_upd nD⟩ (fun i H' _ h => sq_tup (h.2 _ _ hp)) ?_ ?_
    · rintro i x H2 hx ⟨hD, sm⟩
      obtain ⟨j, hj, jv⟩ := lv.at_ hx
      have li : i < js.length := (List.getElem?_eq_some_iff.mp hj).1
      have lj := ok.len j (List.mem_of_getElem? hj)
      refine ⟨rfl, _, rfl, _, rfl, x, j, by rw [lj]; rfl, jv.same sm, by omega, fun H3 s3 => ⟨_, s3 _ _ hD, (by rw [List.length_map, List.length_replicate]; exact small1000 (by omega)), ?_, same_at (sm.trans s3) nD⟩⟩
      rw [upd_same, rep_app]
    rintro H2 ⟨hD, sm⟩
    refine ⟨D, _, rfl, sq_lst hD, ?_⟩
    rw [reps]
    refine ⟨true, rfl, iteF ?_⟩
    have hp2 := sm _ _ hp
    refine ⟨_, rfl, p, rfl, ⟨_, sq_tup hp2⟩, fun D2 nD2 => ?_⟩
    refine lc_tup (K := K) (a := p) (xs := us) (fun i H' => H' D2 = some (.lst (((js.take i).map placeOf).map V.int)) ∧ Same H2 H') ⟨upd_same, same_upd nD2⟩ (fun i H' _ h => sq_tup (h.2 _ _ hp2)) ?_ ?_
    · rintro i x H3 hx ⟨hD, s3⟩
      obtain ⟨j, hj, pj, rfl, hpj⟩ := lv.at_ hx
      have li : i < js.length := (List.getElem?_eq_some_iff.mp hj).1
      have lj := ok.len j (List.mem_of_getElem? hj)
      have hpj3 := s3 _ _ (sm _ _ hpj)
      obtain ⟨c, j', rfl⟩ : ∃ c j', j = c :: j' := by
        cases j with
        | nil => simp at lj; omega
        | cons c j' => exact ⟨c, j', rfl⟩
      refine ⟨rfl, _, rfl, pj, _, 0, .int c, rfl, rfl, sq_tup hpj3, atI_nat (j := 0) rfl, _, hD, (by rw [List.length_map, List.length_map, List.length_take]; exact small1000 (by omega)), ?_, same_at s3 nD2⟩
      rw [upd_same, take_one hj, List.map_append, List.map_append]; rfl
    rintro H3 ⟨hD3, s3⟩
    rw [ul, List.take_length] at hD3
    refine ⟨D2, _, rfl, .inl ⟨sq_lst hD3, fun t nt => ?_⟩⟩
    have k4 := same_upd (o := tI (js.map placeOf)) nt
    refine ⟨_, rfl, .ref t, n, js.map placeOf, rfl, ⟨t, rfl, upd_same⟩, ok.wi, ok.inc, by rw [List.length_map]; omega, by rw [List.length_map]; omega, fun H5 s5 => ⟨true, rfl, iteF ?_⟩⟩
    have s05 := ((sm.trans s3).trans k4).trans s5
    have hp5 := s05 _ _ hp
    refine ⟨_, rfl, p, rfl, ⟨_, sq_tup hp5⟩, fun D6 nD6 => ?_⟩
    refine walk_tup (K := K) (a := p) (xs := us) (fun i H' => ∃ m, H' D6 = some (.lst ((List.replicate m true).map V.bl)) ∧ m ≤ i * 5 ∧ Same H5 H') ⟨0, upd_same, Nat.zero_le _, same_upd nD6⟩ (fun i H' _ h => by obtain ⟨m, _, _, sm⟩ := h; exact sq_tup (sm _ _ hp5)) ?_ ?_
    · rintro i x H6 hx ⟨m, hD6, mi, s6⟩
      obtain ⟨j, hj, pj, rfl, hpj⟩ := lv.at_ hx
      have li : i < js.length := (List.getElem?_eq_some_iff.mp hj).1
      have lj := ok.len j (List.mem_of_getElem? hj)
      have hpj6 := s6 _ _ (s05 _ _ hpj)
      have lm : (j.map V.int).length = many := by rw [List.length_map, lj]
      refine ⟨rfl, _, rfl, _, rfl, pj, _, rfl, sq_tup hpj6, fun z => ?_, fun _ y ny => ?_⟩
      · exfalso
        have z := z.1
        rw [show (some 1 : Option Int) = some ((1 : Nat) : Int) from rfl, HT.sIx_nat, lm] at z
        omega
      rw [cut_tail (by omega)]
      have Dy : D6 ≠ y := ne_of_none hD6 ny
      have k7 := same_upd (o := .tup ((j.map V.int).drop 1)) ny
      have ey : upd H6 y (.tup ((j.map V.int).drop 1)) y = some (.tup ((j.map V.int).drop 1)) := upd_same
      have hD7 := k7 _ _ hD6
      have s7 := s6.trans k7
      generalize upd H6 y (.tup ((j.map V.int).drop 1)) = H7 at *
      refine ⟨y, rfl, ⟨_, sq_tup ey⟩, ?_⟩
      refine walk_tup (K := K) (a := y) (xs := (j.map V.int).drop 1) (fun k H' => ∃ m', H' D6 = some (.lst ((List.replicate m' true).map V.bl)) ∧ m' ≤ i * 5 + k ∧ Same H5 H' ∧ H' y = some (.tup ((j.map V.int).drop 1))) ⟨m, hD7, by omega, s7, ey⟩ (fun k H' _ h => by obtain ⟨_, _, _, _, e⟩ := h; exact sq_tup e) ?_ ?_
      · rintro k x H8 hx8 ⟨m', hD8, mk, s8, ey8⟩
        rw [← List.map_drop] at hx8
        obtain ⟨c, hc, rfl⟩ := at_map hx8
        have c1 := ok.one j (List.mem_of_getElem? hj) c (List.mem_of_getElem? hc)
        have lk : k < (j.drop 1).length := (List.getElem?_eq_some_iff.mp hc).1
        rw [List.length_drop] at lk
        refine ⟨rfl, _, rfl, _, _, rfl, rfl, _, hD8, (by rw [List.length_map, List.length_replicate]; exact small1000 (by omega)), m' + 1, ?_, by omega, same_at s8 nD6, by rw [upd_ne Dy.symm]; exact ey8⟩
        rw [upd_same, rep_app, show (fun i j : Int => V.bl (decide (j ≤ i))) c 1 = V.bl true from congrArg V.bl (decide_eq_true c1)]
      · rintro H8 ⟨m', hD8, mk, s8, _⟩
        rw [List.length_drop, lm] at mk
        exact ⟨m', hD8, by omega, s8⟩
    · rintro H6 ⟨m, hD6, _, s6⟩
      refine ⟨D6, _, rfl, sq_lst hD6, ?_⟩
      rw [reps]
      exact q _ (s05.trans s6)
abbrev s_is_bench : Stmt := topS 16
abbrev n_is_bench : List Str := ["value", "size"]
theorem sc_is_bench : FnScope n_is_bench ["value", "size"] (defScope s_is_bench) := ⟨rfl, rfl, rfl, by decide +kernel, rfl, by decide +kernel, by decide +kernel⟩
def spBench : Sp := fun vs H Q _ => ∃ (p : Addr) (k v : V) (n : Nat) (js : List (List Int)), vs = [.ref p, .int n] ∧ H p = some (.tup [k, v]) ∧ JV H v js ∧ JobsOk n 2 js ∧ ∀ H', Same H H' → Q (.bl true) H'
theorem ok_is_bench {f : Addr} {fd : FuncData} (F : Fun K "_is_bench" "_is_bench" s_is_bench f fd) (T : Txt K mg w aW aT es nn) (c_is_jobs : Cal P w K mg base 4 "_is_jobs" spJobs []) : FnOk P w K mg base CX0 5 f fd ["value", "size"] spBench := by
  refine F.ok sc_is_bench (fun vs H Q E h => ?_) (fun cdv A outer s H vs Q E hr h => ?_)
  · obtain ⟨p, k, v, n, js, rfl, _⟩ := h
    rfl
  · obtain ⟨p, k, v, n, js, rfl, hp, jv, ok, q⟩ := h
    refine ⟨_, (pss_one (ps_ret (pe_and (pe_cmpR op_eq (pe_callB call_len_seq (by rfl) T.b_len (by decide +kernel) (pa_cons (pv 0) pa_nil)) pe_int (nomark _)) (pe_one (pe_c c_is_jobs hr (by decide) (by rfl) (pa_cons (pe_ix ix_tup (pv 0) pe_int (fun _ _ => rfl)) (pa_cons (pv 1) (pa_cons pe_int pa_nil)))))))), ?_⟩
    refine ⟨_, rfl, p, _, rfl, .inr (sq_tup hp), rfl, true, rfl, iteT ?_⟩
    exact ⟨_, rfl, p, _, 1, _, rfl, rfl, sq_tup hp, rfl, _, rfl, v, n, 2, js, rfl, jv, ok, by decide, by decide, fun H' s' => q _ s'⟩
abbrev s_is_sum : Stmt := topS 12
abbrev n_is_sum : List Str := ["value", "size", "_", "coefficients", "equal", "bound", "item"]
theorem sc_is_sum : FnScope n_is_sum ["value", "size"] (defScope s_is_sum) := ⟨rfl, rfl, rfl, by decide +kernel, rfl, by decide +kernel, by decide +kernel⟩
def spSum : Sp := fun vs H Q _ => ∃ (v : V) (n : Nat) (r : Row), vs = [v, .int n] ∧ RV H v r ∧ RowOk n r ∧ n ≤ 100 ∧ ∀ H', Same H H' → Q (.bl true) H'
theorem ok_is_sum {f : Addr} {fd : FuncData} (F : Fun K "_is_sum" "_is_sum" s_is_sum f fd) (T : Txt K mg w aW aT es nn) (c_is_whole : Cal P w K mg base 1 "is_whole" spWhole []) (c_is_integers : Cal P w K mg base 2 "is_integers" spInts []) : FnOk P w K mg base CX0 4 f fd ["value", "size"] spSum := by
  refine F.ok sc_is_sum (fun vs H Q E h => ?_) (fun cdv A outer s H vs Q E hr h => ?_)
  · obtain ⟨v, n, r, rfl, _⟩ := h
    rfl
  · obtain ⟨v, n, r, rfl, ⟨p, qa, rfl, hp, hq⟩, ok, n100, q⟩ := h
    have len := ok.len
    refine ⟨_, (pss_cons (ps_if (PW.pt (pw_or (pt_cmpR op_ne (pe_callB call_len_seq (by rfl) T.b_len (by decide +kernel) (pa_cons (pv 0) pa_nil)) pe_int (nomark _)) (pw_or1 (pt_cmpR op_ne (pe_ix ix_tup (pv 0) pe_int (fun _ _ => rfl)) pe_str (nomark _))))) (pss_one (ps_ret pe_bl)) pss_nil)
      (pss_cons (ps_asg (pv 0) (pg_tup rfl (pgs_cons (pg_name (i := 2) sc_is_sum.nd rfl (.inl rfl)) (pgs_cons (pg_name (i := 3) sc_is_sum.nd rfl (.inl rfl)) (pgs_cons (pg_name (i := 4) sc_is_sum.nd rfl (.inl rfl)) (pgs_cons (pg_name (i := 5) sc_is_sum.nd rfl (.inl rfl)) pgs_nil))))))
      (pss_cons (ps_if (PW.pt (pw_or (pt_not (pt_val (pe_c c_is_integers hr (by decide) (by rfl) (pa_cons (pv 3) (pa_cons (pv 1) pa_nil))))) (pw_or1 (pt_not (pt_val (pe_callB (cr_any rfl) (by rfl) T.b_any (by decide +kernel) (pa_cons (pe_lc (own := [("item", 6)]) rfl sc_is_sum.nd (pi_tup (pv 3)) (blkOk_by (N := n_is_sum) (sc := defScope s_is_sum) (by decide +kernel)) (fun _ _ _ _ _ => (pg_name (i := 6) sc_is_sum.nd rfl (.inl rfl))) (fun _ _ _ _ _ => pts_nil) (fun _ _ _ _ _ => (pe_cmpR op_ne (pv 6) pe_int (nomark _)))) pa_nil))))))) (pss_one (ps_ret pe_bl)) pss_nil)
      (pss_one (ps_ret (pe_and (pe_callB call_isE (by rfl) T.b_isinstance (by decide +kernel) (pa_cons (pv 4) (pa_cons (pe_bltn (v := .ty "bool") (by rfl) T.b_bool boot_bool rfl) pa_nil))) (pe_one (pe_c c_is_whole hr (by decide) (by rfl) (pa_cons (pv 5) pa_nil))))))))), ?_⟩
    refine ⟨_, rfl, p, _, rfl, .inr (sq_tup hp), rfl, _, rfl, iteF ⟨_, rfl, p, _, 0, _, rfl, rfl, sq_tup hp, rfl, rfl, _, rfl, iteF ?_⟩⟩
    refine ⟨_, rfl, p, _, rfl, sq_tup hp, rfl, _, _, rfl, _, _, rfl, _, _, rfl, _, _, rfl, rfl, ?_⟩
    refine ⟨_, rfl, _, rfl, .ref qa, r.am, by rw [len]; rfl, ⟨qa, rfl, hq⟩, by omega, fun H1 s1 => ⟨true, rfl, iteF ?_⟩⟩
    have hq1 := s1 _ _ hq
    refine ⟨_, rfl, qa, rfl, ⟨_, sq_tup hq1⟩, fun D nD => ?_⟩
    refine lc_tup (K := K) (a := qa) (xs := r.am.map V.int) (fun i H' => H' D = some (.lst (((r.am.take i).map (fun c : Int => decide (c ≠ 0))).map V.bl)) ∧ Same H1 H') ⟨upd_same, same_upd nD⟩ (fun i H' _ h => sq_tup (h.2 _ _ hq1)) ?_ ?_
    · rintro i x H2 hx ⟨hD, sm⟩
      obtain ⟨c, hc, rfl⟩ := at_map hx
      have li : i < r.am.length := (List.getElem?_eq_some_iff.mp hc).1
      refine ⟨rfl, _, rfl, rfl, _, hD, (by rw [List.length_map, List.length_map, List.length_take]; exact small1000 (by omega)), ?_, same_at sm nD⟩
      rw [upd_same, take_one hc, List.map_append, List.map_append]
      have e : (!decide (V.int c = V.int 0)) = decide (c ≠ 0) := by
        by_cases h : c = 0
        · simp [h]
        · simp [h]
      rw [e]; rfl
    rintro H2 ⟨hD, sm⟩
    rw [List.length_map, List.take_length] at hD
    refine ⟨D, _, rfl, sq_lst hD, true, ?_, iteF ?_⟩
    · obtain ⟨c, hc, h0⟩ := ok.nz
      have : ((r.am.map (fun c : Int => decide (c ≠ 0))).any id) = true := by
        rw [List.any_eq_true]
        exact ⟨_, List.mem_map_of_mem hc, decide_eq_true h0⟩
      rw [this]
    refine ⟨_, rfl, .bl r.eq, .type "bool", "bool", true, rfl, .base (.base (.bl _)), by rfl, true, rfl, iteT ?_⟩
    exact ⟨_, rfl, r.bd, rfl, q _ (s1.trans sm)⟩
abbrev s_is_table : Stmt := topS 14
abbrev n_is_table : List Str := ["value", "size", "_", "places", "lots", "one", "other", "lot"]
theorem sc_is_table : FnScope n_is_table ["value", "size"] (defScope s_is_table) := ⟨rfl, rfl, rfl, by decide +kernel, rfl, by decide +kernel, by decide +kernel⟩
def spTable : Sp := fun vs H Q _ => ∃ (p : Addr) (k u t : V) (n : Nat) (a : List Int) (ls : List (List Int)), vs = [.ref p, .int n] ∧ H p = some (.tup [k, u, t]) ∧ LV H u a ∧ JV H t ls ∧ TabOk n a ls ∧ ∀ H', Same H H' → Q (.bl true) H'
theorem ok_is_table {f : Addr} {fd : FuncData} (F : Fun K "_is_table" "_is_table" s_is_table f fd) (T : Txt K mg w aW aT es nn) (c_is_places : Cal P w K mg base 2 "is_places" spPlaces []) (c_is_integers : Cal P w K mg base 2 "is_integers" spInts []) : FnOk P w K mg base CX0 4 f fd ["value", "size"] spTable := by
  refine F.ok sc_is_table (fun vs H Q E h => ?_) (fun cdv A outer s H vs Q E hr h => ?_)
  · obtain ⟨p, k, u, t, n, a, ls, rfl, _⟩ := h
    rfl
  · obtain ⟨p, k, u, t, n, a, ls, rfl, hp, ⟨qa, rfl, hq⟩, ⟨ql, us, rfl, hql, lv⟩, ok, q⟩ := h
    have ul := lv.len
    have l1 := ok.l1
    have few := ok.few
    have t1 := ok.t1
    have tf := ok.tf
    refine ⟨_, (pss_cons (ps_if (pt_cmpR op_ne (pe_callB call_len_seq (by rfl) T.b_len (by decide +kernel) (pa_cons (pv 0) pa_nil)) pe_int (nomark _)) (pss_one (ps_ret pe_bl)) pss_nil)
      (pss_cons (ps_asg (pv 0) (pg_tup rfl (pgs_cons (pg_name (i := 2) sc_is_table.nd rfl (.inl rfl)) (pgs_cons (pg_name (i := 3) sc_is_table.nd rfl (.inr rfl)) (pgs_cons (pg_name (i := 4) sc_is_table.nd rfl (.inl rfl)) pgs_nil)))))
      (pss_cons (ps_if (PW.pt (pw_or (pt_not (pt_val (pe_c c_is_places hr (by decide) (by rfl) (pa_cons (pv 3) (pa_cons (pv 1) pa_nil))))) (pw_or (pt_not (pt_truth (pv 3) (by intro _; rfl))) (pw_or1 (pt_cmpR op_lt (Z3.pe_lenSetT (by rfl) T.b_len (by rfl) T.b_set (pv 3)) (pe_callB call_len_seq (by rfl) T.b_len (by decide +kernel) (pa_cons (pv 3) pa_nil)) (nomark _)))))) (pss_one (ps_ret pe_bl)) pss_nil)
      (pss_cons (ps_if (PW.pt (pw_or (pt_not (pt_val (pe_callB call_isE (by rfl) T.b_isinstance (by decide +kernel) (pa_cons (pv 4) (pa_cons (pe_bltn (v := .ty "tuple") (by rfl) T.b_tuple boot_tuple rfl) pa_nil))))) (pw_or1 (pt_not (pt_truth (pv 4) (by intro _; rfl)))))) (pss_one (ps_ret pe_bl)) pss_nil)
      (pss_cons (ps_if (pt_not (pt_val (pe_callB (cr_all rfl) (by rfl) T.b_all (by decide +kernel) (pa_cons (pe_lc (own := [("lot", 7)]) rfl sc_is_table.nd (pi_tup (pv 4)) (blkOk_by (N := n_is_table) (sc := defScope s_is_table) (by decide +kernel)) (fun _ _ _ _ _ => (pg_name (i := 7) sc_is_table.nd rfl (.inl rfl))) (fun _ _ _ _ _ => pts_nil) (fun _ _ _ _ _ => (pe_c c_is_integers hr (by decide) (by rfl) (pa_cons (pv 7) (pa_cons (pe_callB (id := "len") (r := fun xs H Q => ∃ a ys, xs = [V.ref a] ∧ (SqL K H a ys ∨ SqT K H a ys) ∧ Q (.int (ys.length : Nat)) H) call_len_seq (by rfl) T.b_len (by decide +kernel) (pa_cons (pv 3) pa_nil)) pa_nil))))) pa_nil)))) (pss_one (ps_ret pe_bl)) pss_nil)
      (pss_one (ps_ret (pe_callB (cr_all rfl) (by rfl) T.b_all (by decide +kernel) (pa_cons (pe_lc (own := [("one", 5), ("other", 6)]) (g := gTup K 2 (gCons (gName 5) (gCons (gName 6) gNil))) rfl sc_is_table.nd (RZ.pi_zipA (by rfl) T.b_zip (pa_cons (pv 4) (pa_cons (pe_slice sl_tupA (pv 4) (po_some pe_int) po_none) pa_nil))) (blkOk_by (N := n_is_table) (sc := defScope s_is_table) (by decide +kernel)) (fun _ _ _ _ _ => (pg_tup rfl (pgs_cons (pg_name (i := 5) sc_is_table.nd rfl (.inl rfl)) (pgs_cons (pg_name (i := 6) sc_is_table.nd rfl (.inl rfl)) pgs_nil)))) (fun _ _ _ _ _ => pts_nil) (fun _ _ _ _ _ => (pe_cmpR (r := rLtT K) (op_ltT (Nat.lt_of_le_of_lt (Nat.le_add_right _ 64) hr.units)) (pv 5) (pv 6) (nomark _)))) pa_nil))))))))), ?_⟩
    refine ⟨_, rfl, p, _, rfl, .inr (sq_tup hp), rfl, _, rfl, iteF ?_⟩
    refine ⟨_, rfl, p, _, rfl, sq_tup hp, rfl, _, _, rfl, _, _, rfl, _, _, rfl, rfl, ?_⟩
    refine ⟨_, rfl, _, rfl, .ref qa, n, a, rfl, ⟨qa, rfl, hq⟩, ok.wi, by omega, fun H1 s1 => ⟨true, rfl, iteF ?_⟩⟩
    have hq1 := s1 _ _ hq
    have la : (a.map V.int).length = a.length := List.length_map ..
    refine ⟨_, rfl, true, .inr (.inl ⟨_, sq_tup hq1, by cases a with | nil => simp at l1 | cons c d => rfl⟩), iteF ?_⟩
    refine ⟨_, rfl, qa, a, rfl, sq_tup hq1, ok.nd, by omega, _, rfl, qa, _, rfl, .inr (sq_tup hq1), _, _, rfl, rfl, _, rfl, ite2 (fun h => ?_) (fun _ => ?_)⟩
    · exfalso
      have h := of_decide_eq_true h
      omega
    have hql1 := s1 _ _ hql
    refine ⟨_, rfl, .ref ql, .type "tuple", "tuple", true, rfl, .base (.base (.tup hql1)), by rfl, true, rfl, iteF ?_⟩
    refine ⟨_, rfl, true, .inr (.inl ⟨_, sq_tup hql1, by cases us with | nil => simp at ul; omega | cons c d => rfl⟩), iteF ?_⟩
    refine ⟨_, rfl, ql, rfl, ⟨_, sq_tup hql1⟩, fun D nD => ?_⟩
    refine lc_tup (K := K) (a := ql) (xs := us) (fun i H' => H' D = some (.lst ((List.replicate i true).map V.bl)) ∧ Same H1 H') ⟨upd_same, same_upd nD⟩ (fun i H' _ h => sq_tup (h.2 _ _ hql1)) ?_ ?_
    · rintro i x H2 hx ⟨hD, sm⟩
      obtain ⟨l, hl, lvx⟩ := lv.at_ hx
      have li : i < ls.length := (List.getElem?_eq_some_iff.mp hl).1
      have ll := ok.len l (List.mem_of_getElem? hl)
      refine ⟨rfl, _, rfl, _, rfl, qa, _, rfl, .inr (sq_tup (sm _ _ hq1)), x, l, by rw [la, ll]; rfl, lvx.same (s1.trans sm), by omega, fun H3 s3 => ⟨_, s3 _ _ hD, (by rw [List.length_map, List.length_replicate]; exact small1000 (by omega)), ?_, same_at (sm.trans s3) nD⟩⟩
      rw [upd_same, rep_app]
    rintro H2 ⟨hD, sm⟩
    refine ⟨D, _, rfl, sq_lst hD, ?_⟩
    rw [reps]
    refine ⟨true, rfl, iteF ?_⟩
    have s12 := s1.trans sm
    have hql2 := sm _ _ hql1
    refine ⟨_, rfl, _, rfl, _, rfl, ql, _, rfl, sq_tup hql2, fun z => ?_, fun _ y ny => ?_⟩
    · exfalso
      have z := z.1
      rw [show (some 1 : Option Int) = some ((1 : Nat) : Int) from rfl, HT.sIx_nat] at z
      omega
    rw [cut_tail (by omega)]
    have k2 := same_upd (o := .tup (us.drop 1)) ny
    have e2 : upd H2 y (.tup (us.drop 1)) y = some (.tup (us.drop 1)) := upd_same
    generalize upd H2 y (.tup (us.drop 1)) = H3 at *
    have hql3 := k2 _ _ hql2
    refine ⟨ql, y, _, _, rfl, .inr ⟨sq_tup hql3, sq_tup e2, fun D2 nD2 => ?_⟩⟩
    refine lc_zipM (K := K) (a := ql) (b := y) (xs := us) (ys := us.drop 1) (us.length - 1) (by rw [List.length_drop]; omega)
      (fun i H' => H' D2 = some (.lst ((List.replicate i true).map V.bl)) ∧ Same H3 H') ⟨upd_same, same_upd nD2⟩ (fun i H' h => ⟨sq_tup (h.2 _ _ hql3), sq_tup (h.2 _ _ e2)⟩) ?_ ?_
    · rintro i c d T' H4 hc hd ⟨hD2, sm2⟩ nT
      rw [List.getElem?_drop, Nat.add_comm] at hd
      obtain ⟨l, hl, pc, rfl, hpc⟩ := lv.at_ hc
      obtain ⟨l', hl', pd, rfl, hpd⟩ := lv.at_ hd
      have li : i < us.length := (List.getElem?_eq_some_iff.mp hc).1
      have DT : D2 ≠ T' := ne_of_none hD2 nT
      have lt := ok.inc i l l' hl hl'
      have sT := same_at (o := .tup [.ref pc, .ref pd]) sm2 (sm2.free nT)
      have s1T := (s12.trans k2).trans sT
      refine ⟨T', _, rfl, sq_tup upd_same, rfl, _, _, rfl, _, _, rfl, rfl, rfl, ?_⟩
      refine ⟨_, rfl, _, rfl, pc, pd, l, l', rfl, rfl, sq_tup (s1T _ _ hpc), sq_tup (s1T _ _ hpd), _, (by rw [upd_ne DT]; exact hD2), (by rw [List.length_map, List.length_replicate]; exact small1000 (by omega)), ?_, same_at sT nD2⟩
      rw [upd_same, rep_app, lt]
    · rintro H4 ⟨hD2, sm2⟩
      refine ⟨D2, _, rfl, sq_lst hD2, ?_⟩
      rw [reps]
      exact q _ ((s12.trans k2).trans sm2)
/-- a test of the dict by its word -/
structure Tst (P : Program) (w : World) (K : PySem.W.Frag) (mg : Str → Option Value) (base : Heap) (aT : Addr) (fS fU fB fT : Addr) : Prop where
  s : Held P w K mg base 5 fS spSum
  u : Held P w K mg base 5 fU spUnlike
  b : Held P w K mg base 5 fB spBench
  t : Held P w K mg base 5 fT spTable
  is : KDct K w aT "sum" (.ref fS)
  iu : KDct K w aT "unlike" (.ref fU)
  ib : KDct K w aT "bench" (.ref fB)
  it : KDct K w aT "table" (.ref fT)
  nd : [fS, fU, fB, fT].Nodup
def tests (fS fU fB fT : Addr) (f : Addr) : Option Sp := if f = fS then some spSum else if f = fU then some spUnlike else if f = fB then some spBench else if f = fT then some spTable else none
abbrev s_is_wish : Stmt := topS 8
abbrev n_is_wish : List Str := ["value", "size", "test"]
theorem sc_is_wish : FnScope n_is_wish ["value", "size"] (defScope s_is_wish) := ⟨rfl, rfl, rfl, by decide +kernel, rfl, by decide +kernel, by decide +kernel⟩
def spWish : Sp := fun vs H Q _ => ∃ (v : V) (n : Nat) (x : Wish), vs = [v, .int n] ∧ WV H v x ∧ WishOk n x ∧ ∀ H', Same H H' → Q (.bl true) H'
theorem ok_is_wish {f fS fU fB fT : Addr} {fd : FuncData} (F : Fun K "is_wish" "is_wish" s_is_wish f fd) (T : Txt K mg w aW aT es nn) (S : Tst P w K mg base aT fS fU fB fT) : FnOk P w K mg base CX0 6 f fd ["value", "size"] spWish := by
  obtain ⟨n1, n2⟩ := List.nodup_cons.mp S.nd
  obtain ⟨n3, n4⟩ := List.nodup_cons.mp n2
  obtain ⟨n5, n6⟩ := List.nodup_cons.mp n4
  have u1 : fU ≠ fS := fun e => n1 (by simp [e])
  have b1 : fB ≠ fS := fun e => n1 (by simp [e])
  have t1 : fT ≠ fS := fun e => n1 (by simp [e])
  have b2 : fB ≠ fU := fun e => n3 (by simp [e])
  have t2 : fT ≠ fU := fun e => n3 (by simp [e])
  have t3 : fT ≠ fB := fun e => n5 (by simp [e])
  have ts : tests fS fU fB fT fS = some spSum := if_pos rfl
  have tu : tests fS fU fB fT fU = some spUnlike := by unfold tests; rw [if_neg u1, if_pos rfl]
  have tb : tests fS fU fB fT fB = some spBench := by unfold tests; rw [if_neg b1, if_neg b2, if_pos rfl]
  have tt : tests fS fU fB fT fT = some spTable := by unfold tests; rw [if_neg t1, if_neg t2, if_neg t3, if_pos rfl]
  have AH : ∀ f sp, tests fS fU fB fT f = some sp → Held P w K mg base 5 f sp := fun f sp h => by
    by_cases e1 : f = fS
    · subst e1; rw [ts] at h; cases h; exact S.s
    by_cases e2 : f = fU
    · subst e2; rw [tu] at h; cases h; exact S.u
    by_cases e3 : f = fB
    · subst e3; rw [tb] at h; cases h; exact S.b
    by_cases e4 : f = fT
    · subst e4; rw [tt] at h; cases h; exact S.t
    unfold tests at h
    rw [if_neg e1, if_neg e2, if_neg e3, if_neg e4] at h
    cases h
  refine F.ok sc_is_wish (fun vs H Q E h => ?_) (fun cdv A outer s H vs Q E hr h => ?_)
  · obtain ⟨v, n, x, rfl, _⟩ := h
    rfl
  · obtain ⟨v, n, x, rfl, wv, ok, q⟩ := h
    refine ⟨_, (pss_cons (ps_if (PW.pt (pw_or (pt_not (pt_val (pe_callB call_isE (by rfl) T.b_isinstance (by decide +kernel) (pa_cons (pv 0) (pa_cons (pe_bltn (v := .ty "tuple") (by rfl) T.b_tuple boot_tuple rfl) pa_nil))))) (pw_or (pt_not (pt_truth (pv 0) (by intro _; rfl))) (pw_or1 (pt_not (pt_val (pe_callB call_isE (by rfl) T.b_isinstance (by decide +kernel) (pa_cons (pe_ix ix_tup (pv 0) pe_int (fun _ _ => rfl)) (pa_cons (pe_bltn (v := .ty "str") (by rfl) T.b_str boot_str rfl) pa_nil))))))))) (pss_one (ps_ret pe_bl)) pss_nil)
      (pss_cons (ps_if (pt_cmpR (op_notIn_kd T.kd) (pe_ix ix_tup (pv 0) pe_int (fun _ _ => rfl)) (pe_gc (by rfl) T.c_WISH_TESTS) (by rfl)) (pss_one (ps_ret pe_bl)) pss_nil)
      (pss_cons (ps_set (i := 2) sc_is_wish.nd rfl (.inl rfl) (pe_ix ix_kdict (pe_gc (by rfl) T.c_WISH_TESTS) (pe_ix ix_tup (pv 0) pe_int (fun _ _ => rfl)) (fun _ _ => rfl)))
      (pss_one (ps_ret (pe_callA (i := 2) AH hr rfl (.inl rfl) (pa_cons (pv 0) (pa_cons (pv 1) pa_nil)))))))), ?_⟩
    obtain ⟨p, wd, rs, f1, rfl, hp, hd, rest⟩ : ∃ p wd rs f1, v = .ref p ∧ H p = some (.tup (.str wd :: rs)) ∧ KDct K w aT wd (.ref f1) ∧ (∃ sp, tests fS fU fB fT f1 = some sp ∧ sp [.ref p, .int n] H Q (fun _ _ _ => False)) := by
      cases x with
      | sum r =>
        obtain ⟨p, qa, rfl, hp, hq⟩ := wv
        exact ⟨p, "sum", _, fS, rfl, hp, S.is, _, ts, .ref p, n, r, rfl, ⟨p, qa, rfl, hp, hq⟩, ok.1, ok.2, fun H' s' => q _ s'⟩
      | unlike a =>
        obtain ⟨p, u, rfl, hp, lv⟩ := wv
        exact ⟨p, "unlike", _, fU, rfl, hp, S.iu, _, tu, p, _, u, n, a, rfl, hp, lv, ok.1, ok.2.1, ok.2.2.1, ok.2.2.2, fun H' s' => q _ s'⟩
      | bench js =>
        obtain ⟨p, u, rfl, hp, jv⟩ := wv
        exact ⟨p, "bench", _, fB, rfl, hp, S.ib, _, tb, p, _, u, n, js, rfl, hp, jv, ok, fun H' s' => q _ s'⟩
      | table a ls =>
        obtain ⟨p, u, t, rfl, hp, lv, jv⟩ := wv
        exact ⟨p, "table", _, fT, rfl, hp, S.it, _, tt, p, _, u, t, n, a, ls, rfl, hp, lv, jv, ok, fun H' s' => q _ s'⟩
    obtain ⟨sp, hsp, run⟩ := rest
    refine ⟨_, rfl, .ref p, .type "tuple", "tuple", true, rfl, .base (.base (.tup hp)), by rfl, true, rfl, iteF ?_⟩
    obtain ⟨es', n', u', hk1, hk2, hk3, hk4⟩ := id hd
    refine ⟨_, rfl, true, .inr (.inl ⟨_, sq_tup hp, rfl⟩), iteF ?_⟩
    refine ⟨_, rfl, p, _, 0, _, rfl, rfl, sq_tup hp, atI_nat (j := 0) rfl, .str wd, .type "str", "str", true, rfl, .base (.base (.str wd)), by rfl, true, rfl, iteF ?_⟩
    refine ⟨_, rfl, p, _, 0, _, rfl, rfl, sq_tup hp, atI_nat (j := 0) rfl, wd, some u', rfl, rfl, hk3, _, rfl, iteF ?_⟩
    refine ⟨_, rfl, p, _, 0, _, rfl, rfl, sq_tup hp, atI_nat (j := 0) rfl, aT, wd, _, rfl, rfl, hd, ?_⟩
    exact ⟨f1, sp, rfl, hsp, _, rfl, _, rfl, run⟩
end
end M56

namespace M56
open PySem PySem.Spec PyProof.Rows L2 SX Own Gd
open C8 (Cal pe_c pe_gc pe_mk Mak pss_cut)
/-! ### tasks -/
structure NmOk (s : Str) : Prop where
  l1 : 1 ≤ s.length
  l6 : s.length ≤ 6
  let_ : ∀ c ∈ s.cps.toList, c ∈ ("abcdefghijklmnopqrstuvwxyz" : Str).cps.toList
  w : inV (.str s) (wordsL.map V.str) = false
abbrev Unk := Str × Int × Int
def UV (H : Hp) (v : V) (u : Unk) : Prop := ∃ p, v = .ref p ∧ H p = some (.tup [.str u.1, .int u.2.1, .int u.2.2])
inductive UVs (H : Hp) : List V → List Unk → Prop
  | nil : UVs H [] []
  | cons {v : V} {vs : List V} {a : Unk} {as : List Unk} : UV H v a → UVs H vs as → UVs H (v :: vs) (a :: as)
theorem UV.same {H H' : Hp} {v : V} {u : Unk} (h : UV H v u) (s : Same H H') : UV H' v u := by
  obtain ⟨p, e, f⟩ := h
  exact ⟨p, e, s _ _ f⟩
theorem UVs.same {H H' : Hp} (s : Same H H') : ∀ {vs : List V} {as : List Unk}, UVs H vs as → UVs H' vs as
  | _, _, .nil => .nil
  | _, _, .cons h t => .cons (h.same s) (t.same s)
theorem UVs.len {H : Hp} : ∀ {vs : List V} {as : List Unk}, UVs H vs as → vs.length = as.length
  | _, _, .nil => rfl
  | _, _, .cons _ t => congrArg (· + 1) t.len
theorem UVs.at_ {H : Hp} : ∀ {vs : List V} {as : List Unk} {i : Nat} {v : V}, UVs H vs as → vs[i]? = some v → ∃ a, as[i]? = some a ∧ UV H v a
  | _, _, 0, _, .cons h t, e => by
    cases e
    exact ⟨_, rfl, h⟩
  | _, _, i + 1, _, .cons h t, e => by
    obtain ⟨r, e1, e2⟩ := t.at_ (i := i) (by simpa using e)
    exact ⟨r, by simpa using e1, e2⟩
structure UnkOk (us : List Unk) : Prop where
  ne : 1 ≤ us.length
  few : us.length ≤ 100
  nm : ∀ u ∈ us, NmOk u.1
  or_ : ∀ u ∈ us, u.2.1 ≤ u.2.2
  inc : ∀ i u v, us[i]? = some u → us[i + 1]? = some v → u.1.cps.toList < v.1.cps.toList
inductive WVs (H : Hp) : List V → List Wish → Prop
  | nil : WVs H [] []
  | cons {v : V} {vs : List V} {a : Wish} {as : List Wish} : WV H v a → WVs H vs as → WVs H (v :: vs) (a :: as)
theorem WVs.same {H H' : Hp} (s : Same H H') : ∀ {vs : List V} {as : List Wish}, WVs H vs as → WVs H' vs as
  | _, _, .nil => .nil
  | _, _, .cons h t => .cons (h.same s) (t.same s)
theorem WVs.len {H : Hp} : ∀ {vs : List V} {as : List Wish}, WVs H vs as → vs.length = as.length
  | _, _, .nil => rfl
  | _, _, .cons _ t => congrArg (· + 1) t.len
theorem WVs.at_ {H : Hp} : ∀ {vs : List V} {as : List Wish} {i : Nat} {v : V}, WVs H vs as → vs[i]? = some v → ∃ a, as[i]? = some a ∧ WV H v a
  | _, _, 0, _, .cons h t, e => by
    cases e
    exact ⟨_, rfl, h⟩
  | _, _, i + 1, _, .cons h t, e => by
    obtain ⟨r, e1, e2⟩ := t.at_ (i := i) (by simpa using e)
    exact ⟨r, by simpa using e1, e2⟩
section
variable {P : Program} {w : World} {K : PySem.W.Frag} {mg : Str → Option Value} {base : Heap} {aW aT : Addr} {es : Array DictEntry} {nn : Nat}
abbrev s_is_name : Stmt := topS 24
abbrev n_is_name : List Str := ["value", "sign"]
theorem sc_is_name : FnScope n_is_name ["value"] (defScope s_is_name) := ⟨rfl, rfl, rfl, by decide +kernel, rfl, by decide +kernel, by decide +kernel⟩
def spName : Sp := fun vs H Q _ => ∃ s : Str, vs = [.str s] ∧ NmOk s ∧ ∀ H', Same H H' → Q (.bl true) H'
theorem ok_is_name {f : Addr} {fd : FuncData} (F : Fun K "is_name" "is_name" s_is_name f fd) (T : Txt K mg w aW aT es nn) : FnOk P w K mg base CX0 1 f fd ["value"] spName := by
  refine F.ok sc_is_name (fun vs H Q E h => ?_) (fun cdv A outer s0 H vs Q E hr h => ?_)
  · obtain ⟨s, rfl, _⟩ := h
    rfl
  · obtain ⟨s, rfl, ok, q⟩ := h
    have l1 := ok.l1
    have l6 := ok.l6
    refine ⟨_, (pss_cons (ps_if (PW.pt (pw_or (pt_not (pt_val (pe_callB call_isE (by rfl) T.b_isinstance (by decide +kernel) (pa_cons (pv 0) (pa_cons (pe_bltn (v := .ty "str") (by rfl) T.b_str boot_str rfl) pa_nil))))) (pw_or (pt_not (pt_chain op_le op_le pe_int (pe_callB call_len_str (by rfl) T.b_len (by decide +kernel) (pa_cons (pv 0) pa_nil)) (pe_gc (by rfl) T.c_LONGEST_NAME))) (pw_or1 (pt_cmpR op_in_seq (pv 0) (pe_gc (by rfl) T.c_WORDS) (by rfl)))))) (pss_one (ps_ret pe_bl)) pss_nil)
      (pss_one (ps_ret (pe_callB (cr_all rfl) (by rfl) T.b_all (by decide +kernel) (pa_cons (pe_lc (own := [("sign", 1)]) rfl sc_is_name.nd (pi_str (pv 0)) (blkOk_by (N := n_is_name) (sc := defScope s_is_name) (by decide +kernel)) (fun _ _ _ _ _ => (pg_name (i := 1) sc_is_name.nd rfl (.inl rfl))) (fun _ _ _ _ _ => pts_nil) (fun _ _ _ _ _ => (pe_cmpR op_in_sign (pv 1) (pe_gc (by rfl) T.c_LETTERS) (by rfl)))) pa_nil))))), ?_⟩
    refine ⟨_, rfl, .str s, .type "str", "str", true, rfl, .base (.base (.str s)), by rfl, true, rfl, iteF ?_⟩
    refine ⟨_, rfl, s, rfl, Nat.le_trans l6 (by rw [sizeLine_eq]; decide), _, _, rfl, rfl, _, rfl, ite2 (fun _ => ?_) (fun h => absurd (decide_eq_true (show (1 : Int) ≤ (s.length : Int) by omega)) h)⟩
    refine ⟨_, _, rfl, rfl, _, rfl, ite2 (fun h => ?_) (fun _ => ?_)⟩
    · exact absurd h (by simp; omega)
    refine ⟨_, rfl, aW, _, rfl, .inr (T.qW H), rfl, by decide, _, rfl, ite2 (fun h => ?_) (fun _ => ?_)⟩
    · have h : inV (.str s) (wordsL.map V.str) = true := h
      rw [ok.w] at h
      cases h
    refine ⟨_, rfl, s, rfl, fun D nD => ?_⟩
    refine walk_str (x := s) (fun i H' => H' D = some (.lst ((List.replicate i true).map V.bl)) ∧ Same H H') ⟨upd_same, same_upd nD⟩ ?_ ?_
    · rintro i c H2 hc ⟨hD, sm⟩
      have li : i < s.cps.size := (Array.getElem?_eq_some_iff.mp hc).1
      have sl : s.cps.size = s.length := rfl
      have mc : c ∈ s.cps.toList := Array.mem_toList_iff.mpr (Array.mem_of_getElem? hc)
      refine ⟨rfl, _, rfl, c, _, rfl, rfl, _, hD, (by rw [List.length_map, List.length_replicate]; exact small1000 (by omega)), ?_, same_at sm nD⟩
      rw [upd_same, rep_app, decide_eq_true (ok.let_ c mc)]
    · rintro H2 ⟨hD, sm⟩
      refine ⟨D, _, rfl, sq_lst hD, ?_⟩
      rw [reps]
      exact q _ sm
abbrev s_is_pair : Stmt := topS 25
abbrev n_is_pair : List Str := ["value"]
theorem sc_is_pair : FnScope n_is_pair ["value"] (defScope s_is_pair) := ⟨rfl, rfl, rfl, by decide +kernel, rfl, by decide +kernel, by decide +kernel⟩
def spPair : Sp := fun vs H Q _ => ∃ (p : Addr) (a b : Int), vs = [.ref p] ∧ H p = some (.tup [.int a, .int b]) ∧ a ≤ b ∧ Q (.bl true) H
theorem ok_is_pair {f : Addr} {fd : FuncData} (F : Fun K "is_pair" "is_pair" s_is_pair f fd) (T : Txt K mg w aW aT es nn) (c_is_whole : Cal P w K mg base 1 "is_whole" spWhole []) : FnOk P w K mg base CX0 2 f fd ["value"] spPair := by
  refine F.ok sc_is_pair (fun vs H Q E h => ?_) (fun cdv A outer s0 H vs Q E hr h => ?_)
  · obtain ⟨p, a, b, rfl, _⟩ := h
    rfl
  · obtain ⟨p, a, b, rfl, hp, ab, q⟩ := h
    refine ⟨_, (pss_cons (ps_if (PW.pt (pw_or (pt_not (pt_val (pe_callB call_isE (by rfl) T.b_isinstance (by decide +kernel) (pa_cons (pv 0) (pa_cons (pe_bltn (v := .ty "tuple") (by rfl) T.b_tuple boot_tuple rfl) pa_nil))))) (pw_or1 (pt_cmpR op_ne (pe_callB call_len_seq (by rfl) T.b_len (by decide +kernel) (pa_cons (pv 0) pa_nil)) pe_int (nomark _))))) (pss_one (ps_ret pe_bl)) pss_nil)
      (pss_one (ps_ret (pe_and (pe_c c_is_whole hr (by decide) (by rfl) (pa_cons (pe_ix ix_tup (pv 0) pe_int (fun _ _ => rfl)) pa_nil)) (pe_and (pe_c c_is_whole hr (by decide) (by rfl) (pa_cons (pe_ix ix_tup (pv 0) pe_int (fun _ _ => rfl)) pa_nil)) (pe_one (pe_cmpR op_le (pe_ix ix_tup (pv 0) pe_int (fun _ _ => rfl)) (pe_ix ix_tup (pv 0) pe_int (fun _ _ => rfl)) (nomark _)))))))), ?_⟩
    refine ⟨_, rfl, .ref p, .type "tuple", "tuple", true, rfl, .base (.base (.tup hp)), by rfl, true, rfl, iteF ?_⟩
    refine ⟨_, rfl, p, _, rfl, .inr (sq_tup hp), rfl, _, rfl, iteF ?_⟩
    refine ⟨_, rfl, p, _, 0, _, rfl, rfl, sq_tup hp, rfl, a, rfl, true, rfl, iteT ?_⟩
    refine ⟨_, rfl, p, _, 1, _, rfl, rfl, sq_tup hp, rfl, b, rfl, true, rfl, iteT ?_⟩
    refine ⟨_, rfl, p, _, 0, _, rfl, rfl, sq_tup hp, rfl, _, rfl, p, _, 1, _, rfl, rfl, sq_tup hp, rfl, _, _, rfl, rfl, ?_⟩
    rw [show (fun i j : Int => V.bl (decide (i ≤ j))) a b = V.bl true from congrArg V.bl (decide_eq_true ab)]
    exact q
abbrev s_is_unknown : Stmt := topS 26
abbrev n_is_unknown : List Str := ["value"]
theorem sc_is_unknown : FnScope n_is_unknown ["value"] (defScope s_is_unknown) := ⟨rfl, rfl, rfl, by decide +kernel, rfl, by decide +kernel, by decide +kernel⟩
def spUnknown : Sp := fun vs H Q _ => ∃ (v : V) (u : Unk), vs = [v] ∧ UV H v u ∧ NmOk u.1 ∧ u.2.1 ≤ u.2.2 ∧ ∀ H', Same H H' → Q (.bl true) H'
theorem ok_is_unknown {f : Addr} {fd : FuncData} (F : Fun K "_is_unknown" "_is_unknown" s_is_unknown f fd) (T : Txt K mg w aW aT es nn) (c_is_name : Cal P w K mg base 1 "is_name" spName []) (c_is_pair : Cal P w K mg base 2 "is_pair" spPair []) : FnOk P w K mg base CX0 3 f fd ["value"] spUnknown := by
  refine F.ok sc_is_unknown (fun vs H Q E h => ?_) (fun cdv A outer s0 H vs Q E hr h => ?_)
  · obtain ⟨v, u, rfl, _⟩ := h
    rfl
  · obtain ⟨v, ⟨s, lo, hi⟩, rfl, ⟨p, rfl, hp⟩, ok, lh, q⟩ := h
    refine ⟨_, (pss_cons (ps_if (PW.pt (pw_or (pt_not (pt_val (pe_callB call_isE (by rfl) T.b_isinstance (by decide +kernel) (pa_cons (pv 0) (pa_cons (pe_bltn (v := .ty "tuple") (by rfl) T.b_tuple boot_tuple rfl) pa_nil))))) (pw_or1 (pt_cmpR op_ne (pe_callB call_len_seq (by rfl) T.b_len (by decide +kernel) (pa_cons (pv 0) pa_nil)) pe_int (nomark _))))) (pss_one (ps_ret pe_bl)) pss_nil)
      (pss_one (ps_ret (pe_and (pe_c c_is_name hr (by decide) (by rfl) (pa_cons (pe_ix ix_tup (pv 0) pe_int (fun _ _ => rfl)) pa_nil)) (pe_one (pe_c c_is_pair hr (by decide) (by rfl) (pa_cons (pe_slice sl_tupA (pv 0) (po_some pe_int) po_none) pa_nil))))))), ?_⟩
    refine ⟨_, rfl, .ref p, .type "tuple", "tuple", true, rfl, .base (.base (.tup hp)), by rfl, true, rfl, iteF ?_⟩
    refine ⟨_, rfl, p, _, rfl, .inr (sq_tup hp), rfl, _, rfl, iteF ?_⟩
    refine ⟨_, rfl, p, _, 0, _, rfl, rfl, sq_tup hp, rfl, s, rfl, ok, fun H1 s1 => ⟨true, rfl, iteT ?_⟩⟩
    refine ⟨_, rfl, _, rfl, p, _, rfl, sq_tup (s1 _ _ hp), (fun z => absurd (show (1 : Nat) = 0 from z.1) (by decide)), fun _ y ny => ?_⟩
    refine ⟨y, lo, hi, rfl, upd_same, lh, q _ (s1.trans (same_upd ny))⟩
abbrev s_check_unknowns : Stmt := topS 27
abbrev n_check_unknowns : List Str := ["value", "at", "item"]
theorem sc_check_unknowns : FnScope n_check_unknowns ["value"] (defScope s_check_unknowns) := ⟨rfl, rfl, rfl, by decide +kernel, rfl, by decide +kernel, by decide +kernel⟩
def spChU : Sp := fun vs H Q _ => ∃ (p : Addr) (us : List V) (ul : List Unk), vs = [.ref p] ∧ H p = some (.tup us) ∧ UVs H us ul ∧ UnkOk ul ∧ ∀ H', Same H H' → Q .non H'
theorem ok_check_unknowns {f : Addr} {fd : FuncData} (F : Fun K "_check_unknowns" "_check_unknowns" s_check_unknowns f fd) (T : Txt K mg w aW aT es nn) (c_is_unknown : Cal P w K mg base 3 "_is_unknown" spUnknown []) : FnOk P w K mg base CX0 4 f fd ["value"] spChU := by
  refine F.ok sc_check_unknowns (fun vs H Q E h => ?_) (fun cdv A outer s0 H vs Q E hr h => ?_)
  · obtain ⟨p, us, ul, rfl, _⟩ := h
    rfl
  · obtain ⟨p, us, ul, rfl, hp, uv, ok, q⟩ := h
    have ne := ok.ne
    have lu := uv.len
    refine ⟨_, (pss_cons (ps_if (PW.pt (pw_or (pt_not (pt_val (pe_callB call_isE (by rfl) T.b_isinstance (by decide +kernel) (pa_cons (pv 0) (pa_cons (pe_bltn (v := .ty "tuple") (by rfl) T.b_tuple boot_tuple rfl) pa_nil))))) (pw_or1 (pt_not (pt_truth (pv 0) (by intro _; rfl)))))) (pss_one ps_dead) pss_nil)
      (pss_one (ps_for PassesOwn.never rfl (pi_enT (by rfl) T.b_enumerate (pa_cons (pv 0) pa_nil)) (pg_tup rfl (pgs_cons (pg_name (i := 1) sc_check_unknowns.nd rfl (.inl rfl)) (pgs_cons (pg_name (i := 2) sc_check_unknowns.nd rfl (.inl rfl)) pgs_nil))) (pss_one (ps_if (PW.pt (pw_or (pt_not (pt_val (pe_c c_is_unknown hr (by decide) (by rfl) (pa_cons (pv 2) pa_nil)))) (pw_or1 (PW.pt (pw_and (pt_cmpR op_gt (pv 1) pe_int (nomark _)) (pw_and1 (pt_cmpR op_le_str (pe_ix ix_tup (pv 2) pe_int (fun _ _ => rfl)) (pe_ix ix_tup (pe_ix ix_tup (pv 0) (pe_op op_sub (pv 1) pe_int) (fun _ _ => rfl)) pe_int (fun _ _ => rfl)) (nomark _)))))))) (pss_one ps_dead) pss_nil))))), ?_⟩
    refine ⟨_, rfl, .ref p, .type "tuple", "tuple", true, rfl, .base (.base (.tup hp)), by rfl, true, rfl, iteF ?_⟩
    refine ⟨_, rfl, true, .inr (.inl ⟨us, sq_tup hp, by cases us with | nil => simp at lu; omega | cons a b => rfl⟩), iteF ?_⟩
    refine ⟨_, rfl, p, us, rfl, sq_tup hp, for_enT (K := K) (a := p) (xs := us) (fun i σ H' => ∃ (y1 y2 : Option V), σ = [some (.ref p), y1, y2] ∧ Same H H')
      ⟨none, none, rfl, Same.refl _⟩ (fun i σ H' h => ?_) (fun i x T' σ H' hx h nT => ?_) (fun σ H' h => ?_)⟩
    · obtain ⟨y1, y2, rfl, sm⟩ := h
      exact sq_tup (sm _ _ hp)
    · obtain ⟨y1, y2, rfl, sm⟩ := h
      obtain ⟨u, hu, pu, rfl, hpu⟩ := uv.at_ hx
      have mu := List.mem_of_getElem? hu
      have sT := same_at (o := .tup [.int (i : Nat), .ref pu]) sm (sm.free nT)
      refine ⟨T', _, rfl, sq_tup upd_same, rfl, _, _, rfl, _, _, rfl, rfl, ?_⟩
      refine ⟨_, rfl, .ref pu, u, rfl, ⟨pu, rfl, sT _ _ hpu⟩, ok.nm u mu, ok.or_ u mu, fun H2 s2 => ⟨true, rfl, iteF ?_⟩⟩
      have s02 := sT.trans s2
      refine ⟨_, rfl, _, _, rfl, rfl, _, rfl, ite2 (fun h1 => ?_) (fun h1 => iteF ⟨_, _, rfl, s02⟩)⟩
      have h1 : (0 : Int) < (i : Int) := of_decide_eq_true h1
      obtain ⟨i', rfl⟩ : ∃ i', i = i' + 1 := ⟨i - 1, by omega⟩
      have hi' : i' < ul.length := by have := (List.getElem?_eq_some_iff.mp hu).1; omega
      have hx' : us[i']? = some us[i'] := List.getElem?_eq_getElem (by omega)
      obtain ⟨u', hu', pu', ex', hpu'⟩ := uv.at_ hx'
      have lt := ok.inc i' u' u hu' hu
      rw [ex'] at hx'
      refine ⟨_, rfl, pu, _, 0, _, rfl, rfl, sq_tup (s02 _ _ hpu), rfl, _, rfl, _, rfl, _, _, rfl, rfl, p, _, _, .ref pu', rfl, rfl, sq_tup (s02 _ _ hp), ?_, pu', _, 0, _, rfl, rfl, sq_tup (s02 _ _ hpu'), rfl, _, _, rfl, rfl, _, rfl, ?_⟩
      · rw [show (((i' + 1 : Nat) : Int) - 1) = (i' : Int) by omega]
        exact atI_nat hx'
      · rw [decide_eq_true lt]
        exact iteF ⟨_, _, rfl, s02⟩
    · obtain ⟨y1, y2, rfl, sm⟩ := h
      exact q _ sm
abbrev s_check_wishes : Stmt := topS 28
abbrev n_check_wishes : List Str := ["value", "size", "at", "item"]
theorem sc_check_wishes : FnScope n_check_wishes ["value", "size"] (defScope s_check_wishes) := ⟨rfl, rfl, rfl, by decide +kernel, rfl, by decide +kernel, by decide +kernel⟩
def spChW : Sp := fun vs H Q _ => ∃ (p : Addr) (us : List V) (n : Nat) (wl : List Wish), vs = [.ref p, .int n] ∧ H p = some (.tup us) ∧ WVs H us wl ∧ (∀ x ∈ wl, WishOk n x) ∧ ∀ H', Same H H' → Q .non H'
theorem ok_check_wishes {f : Addr} {fd : FuncData} (F : Fun K "_check_wishes" "_check_wishes" s_check_wishes f fd) (T : Txt K mg w aW aT es nn) (c_is_wish : Cal P w K mg base 6 "is_wish" spWish []) : FnOk P w K mg base CX0 7 f fd ["value", "size"] spChW := by
  refine F.ok sc_check_wishes (fun vs H Q E h => ?_) (fun cdv A outer s0 H vs Q E hr h => ?_)
  · obtain ⟨p, us, n, wl, rfl, _⟩ := h
    rfl
  · obtain ⟨p, us, n, wl, rfl, hp, wv, ok, q⟩ := h
    refine ⟨_, (pss_cons (ps_if (pt_not (pt_val (pe_callB call_isE (by rfl) T.b_isinstance (by decide +kernel) (pa_cons (pv 0) (pa_cons (pe_bltn (v := .ty "tuple") (by rfl) T.b_tuple boot_tuple rfl) pa_nil))))) (pss_one ps_dead) pss_nil)
      (pss_one (ps_for PassesOwn.never rfl (pi_enT (by rfl) T.b_enumerate (pa_cons (pv 0) pa_nil)) (pg_tup rfl (pgs_cons (pg_name (i := 2) sc_check_wishes.nd rfl (.inl rfl)) (pgs_cons (pg_name (i := 3) sc_check_wishes.nd rfl (.inl rfl)) pgs_nil))) (pss_one (ps_if (pt_not (pt_val (pe_c c_is_wish hr (by decide) (by rfl) (pa_cons (pv 3) (pa_cons (pv 1) pa_nil))))) (pss_one ps_dead) pss_nil))))), ?_⟩
    refine ⟨_, rfl, .ref p, .type "tuple", "tuple", true, rfl, .base (.base (.tup hp)), by rfl, true, rfl, iteF ?_⟩
    refine ⟨_, rfl, p, us, rfl, sq_tup hp, for_enT (K := K) (a := p) (xs := us) (fun i σ H' => ∃ (y1 y2 : Option V), σ = [some (.ref p), some (.int (n : Int)), y1, y2] ∧ Same H H')
      ⟨none, none, rfl, Same.refl _⟩ (fun i σ H' h => ?_) (fun i x T' σ H' hx h nT => ?_) (fun σ H' h => ?_)⟩
    · obtain ⟨y1, y2, rfl, sm⟩ := h
      exact sq_tup (sm _ _ hp)
    · obtain ⟨y1, y2, rfl, sm⟩ := h
      obtain ⟨u, hu, wu⟩ := wv.at_ hx
      have mu := List.mem_of_getElem? hu
      have sT := same_at (o := .tup [.int (i : Nat), x]) sm (sm.free nT)
      refine ⟨T', _, rfl, sq_tup upd_same, rfl, _, _, rfl, _, _, rfl, rfl, ?_⟩
      exact ⟨_, rfl, _, rfl, x, n, u, rfl, wu.same sT, ok u mu, fun H2 s2 => ⟨true, rfl, iteF ⟨_, _, rfl, sT.trans s2⟩⟩⟩
    · obtain ⟨y1, y2, rfl, sm⟩ := h
      exact q _ sm
abbrev s_check_goal : Stmt := topS 29
abbrev n_check_goal : List Str := ["value", "size", "at", "item"]
theorem sc_check_goal : FnScope n_check_goal ["value", "size"] (defScope s_check_goal) := ⟨rfl, rfl, rfl, by decide +kernel, rfl, by decide +kernel, by decide +kernel⟩
def spChG : Sp := fun vs H Q _ => ∃ (v : V) (a : List Int), vs = [v, .int (a.length : Nat)] ∧ LV H v a ∧ ∀ H', Same H H' → Q .non H'
theorem ok_check_goal {f : Addr} {fd : FuncData} (F : Fun K "_check_goal" "_check_goal" s_check_goal f fd) (T : Txt K mg w aW aT es nn) (c_is_whole : Cal P w K mg base 1 "is_whole" spWhole []) : FnOk P w K mg base CX0 2 f fd ["value", "size"] spChG := by
  refine F.ok sc_check_goal (fun vs H Q E h => ?_) (fun cdv A outer s0 H vs Q E hr h => ?_)
  · obtain ⟨v, a, rfl, _⟩ := h
    rfl
  · obtain ⟨v, a, rfl, ⟨p, rfl, hp⟩, q⟩ := h
    refine ⟨_, (pss_cons (ps_if (PW.pt (pw_or (pt_not (pt_val (pe_callB call_isE (by rfl) T.b_isinstance (by decide +kernel) (pa_cons (pv 0) (pa_cons (pe_bltn (v := .ty "tuple") (by rfl) T.b_tuple boot_tuple rfl) pa_nil))))) (pw_or1 (pt_cmpR op_ne (pe_callB call_len_seq (by rfl) T.b_len (by decide +kernel) (pa_cons (pv 0) pa_nil)) (pv 1) (nomark _))))) (pss_one ps_dead) pss_nil)
      (pss_one (ps_for PassesOwn.never rfl (pi_enT (by rfl) T.b_enumerate (pa_cons (pv 0) pa_nil)) (pg_tup rfl (pgs_cons (pg_name (i := 2) sc_check_goal.nd rfl (.inl rfl)) (pgs_cons (pg_name (i := 3) sc_check_goal.nd rfl (.inl rfl)) pgs_nil))) (pss_one (ps_if (pt_not (pt_val (pe_c c_is_whole hr (by decide) (by rfl) (pa_cons (pv 3) pa_nil)))) (pss_one ps_dead) pss_nil))))), ?_⟩
    refine ⟨_, rfl, .ref p, .type "tuple", "tuple", true, rfl, .base (.base (.tup hp)), by rfl, true, rfl, iteF ?_⟩
    refine ⟨_, rfl, p, _, rfl, .inr (sq_tup hp), _, rfl, rfl, _, rfl, ite2 (fun h => absurd h (by simp)) (fun _ => ?_)⟩
    refine ⟨_, rfl, p, _, rfl, sq_tup hp, for_enT (K := K) (a := p) (xs := a.map V.int) (fun i σ H' => ∃ (y1 y2 : Option V), σ = [some (.ref p), some (.int (a.length : Nat)), y1, y2] ∧ Same H H')
      ⟨none, none, rfl, Same.refl _⟩ (fun i σ H' h => ?_) (fun i x T' σ H' hx h nT => ?_) (fun σ H' h => ?_)⟩
    · obtain ⟨y1, y2, rfl, sm⟩ := h
      exact sq_tup (sm _ _ hp)
    · obtain ⟨y1, y2, rfl, sm⟩ := h
      obtain ⟨c, hc, rfl⟩ := at_map hx
      have sT := same_at (o := .tup [.int (i : Nat), .int c]) sm (sm.free nT)
      refine ⟨T', _, rfl, sq_tup upd_same, rfl, _, _, rfl, _, _, rfl, rfl, ?_⟩
      exact ⟨_, rfl, c, rfl, true, rfl, iteF ⟨_, _, rfl, sT⟩⟩
    · obtain ⟨y1, y2, rfl, sm⟩ := h
      exact q _ sm
abbrev s_Task_init : Stmt := inS 23 0
abbrev n_Task_init : List Str := ["self", "unknowns", "wishes", "goal"]
theorem sc_Task_init : FnScope n_Task_init ["self", "unknowns", "wishes", "goal"] (defScope s_Task_init) := ⟨rfl, rfl, rfl, by decide +kernel, rfl, by decide +kernel, by decide +kernel⟩
/-- a task at x -/
def TaskV (C : Addr) (H : Hp) (v : V) (ul : List Unk) (wl : List Wish) (goal : List Int) : Prop := ∃ x dx pu pw pg us ws, v = .ref x ∧ H x = some (.ins C dx [("unknowns", .ref pu), ("wishes", .ref pw), ("goal", .ref pg)]) ∧ H pu = some (.tup us) ∧ UVs H us ul ∧ H pw = some (.tup ws) ∧ WVs H ws wl ∧ H pg = some (tI goal)
theorem put_ne {f g : Str} {v x : V} {r : List (Str × V)} (h : ¬ g = f) : putF f v ((g, x) :: r) = (g, x) :: putF f v r := if_neg h
theorem puts2 (u w : V) : putF "wishes" w (putF "unknowns" u []) = ([("unknowns", u), ("wishes", w)] : List (Str × V)) := put_ne (by decide)
theorem puts3 (u w g : V) : putF "goal" g (putF "wishes" w (putF "unknowns" u [])) = ([("unknowns", u), ("wishes", w), ("goal", g)] : List (Str × V)) := by
  rw [puts2, put_ne (by decide), put_ne (by decide)]; rfl
def spTask (C : Addr) : Sp := fun vs H Q _ => ∃ (x dx pu pw pg : Addr) (us ws : List V) (ul : List Unk) (wl : List Wish) (goal : List Int), vs = [.ref x, .ref pu, .ref pw, .ref pg] ∧ H x = some (.ins C dx []) ∧ H pu = some (.tup us) ∧ UVs H us ul ∧ H pw = some (.tup ws) ∧ WVs H ws wl ∧ H pg = some (tI goal) ∧
  UnkOk ul ∧ (∀ z ∈ wl, WishOk ul.length z) ∧ goal.length = ul.length ∧ ∀ H1, Same H H1 → Q .non (upd H1 x (.ins C dx [("unknowns", .ref pu), ("wishes", .ref pw), ("goal", .ref pg)]))
theorem ok_Task_init {f C : Addr} {fd : FuncData} (F : Fun K "__init__" "Task.__init__" s_Task_init f fd) (cl : Cls K C) (na : NoAttr K C "unknowns" ∧ NoAttr K C "wishes" ∧ NoAttr K C "goal") (T : Txt K mg w aW aT es nn) (c_check_unknowns : Cal P w K mg base 4 "_check_unknowns" spChU []) (c_check_wishes : Cal P w K mg base 7 "_check_wishes" spChW []) (c_check_goal : Cal P w K mg base 2 "_check_goal" spChG []) :
    FnOk P w K mg base CX0 8 f fd ["self", "unknowns", "wishes", "goal"] (spTask C) := by
  refine F.ok sc_Task_init (fun vs H Q E h => ?_) (fun cdv A outer s0 H vs Q E hr h => ?_)
  · obtain ⟨x, dx, pu, pw, pg, us, ws, ul, wl, goal, rfl, _⟩ := h
    rfl
  · obtain ⟨x, dx, pu, pw, pg, us, ws, ul, wl, goal, rfl, hx, hpu, uv, hpw, wv, hpg, uo, wo, lg, q⟩ := h
    refine ⟨_, (pss_cons (ps_expr (pe_c c_check_unknowns hr (by decide) (by rfl) (pa_cons (pv 1) pa_nil)))
      (pss_cons (ps_expr (pe_c c_check_wishes hr (by decide) (by rfl) (pa_cons (pv 2) (pa_cons (pe_callB call_len_seq (by rfl) T.b_len (by decide +kernel) (pa_cons (pv 1) pa_nil)) pa_nil))))
      (pss_cons (ps_expr (pe_c c_check_goal hr (by decide) (by rfl) (pa_cons (pv 3) (pa_cons (pe_callB call_len_seq (by rfl) T.b_len (by decide +kernel) (pa_cons (pv 1) pa_nil)) pa_nil))))
      (pss_cons (ps_fld (pv 0) (pv 1) (by rfl))
      (pss_cons (ps_fld (pv 0) (pv 2) (by rfl))
      (pss_one (ps_fld (pv 0) (pv 3) (by rfl)))))))), ?_⟩
    refine ⟨_, rfl, pu, us, ul, rfl, hpu, uv, uo, fun H1 s1 => ?_⟩
    refine ⟨_, rfl, _, rfl, pu, _, rfl, .inr (sq_tup (s1 _ _ hpu)), pw, ws, ul.length, wl, by rw [uv.len]; rfl, s1 _ _ hpw, wv.same s1, wo, fun H2 s2 => ?_⟩
    have s12 := s1.trans s2
    refine ⟨_, rfl, _, rfl, pu, _, rfl, .inr (sq_tup (s12 _ _ hpu)), .ref pg, goal, by rw [uv.len, lg]; rfl, ⟨pg, rfl, s12 _ _ hpg⟩, fun H3 s3 => ?_⟩
    have s13 := s12.trans s3
    refine ⟨_, rfl, _, rfl, x, C, dx, [], rfl, s13 _ _ hx, cl, na.1, by decide, ?_⟩
    refine ⟨_, rfl, _, rfl, x, C, dx, _, rfl, upd_same, cl, na.2.1, by show 1 < 1000; decide, ?_⟩
    refine ⟨_, rfl, _, rfl, x, C, dx, _, rfl, upd_same, cl, na.2.2, ?_, ?_⟩
    · rw [puts2]; show 2 < 1000; decide
    rw [puts3, upd_upd, upd_upd]
    exact q _ s13
end
end M56

namespace M56
open PySem PySem.Spec PyProof.Rows L2 SX Own Gd
open C8 (Cal pe_c pe_gc pe_mk Mak pss_cut)
/-! ### tuples stay while lists change -/
def TK (H H' : Hp) : Prop := ∀ a xs, H a = some (.tup xs) → H' a = some (.tup xs)
theorem TK.of {H H' : Hp} (s : Same H H') : TK H H' := fun a xs e => s _ _ e
theorem TK.put {H : Hp} {l : Addr} {xs : List V} {o : HO} (e : H l = some (.lst xs)) : TK H (upd H l o) := fun a ys z => by
  rw [upd_ne (fun h => by rw [h, e] at z; cases z)]; exact z
theorem TK.trans {H H1 H2 : Hp} (x : TK H H1) (y : TK H1 H2) : TK H H2 := fun a xs e => y _ _ (x _ _ e)
theorem LV.tk {H H' : Hp} {v : V} {a : List Int} (h : LV H v a) (s : TK H H') : LV H' v a := by
  obtain ⟨p, e, hp⟩ := h
  exact ⟨p, e, s _ _ hp⟩
theorem LVs.tk {H H' : Hp} (s : TK H H') : ∀ {vs : List V} {as : List (List Int)}, LVs H vs as → LVs H' vs as
  | _, _, .nil => .nil
  | _, _, .cons h t => .cons (h.tk s) (t.tk s)
theorem UVs.tk {H H' : Hp} (s : TK H H') : ∀ {vs : List V} {as : List Unk}, UVs H vs as → UVs H' vs as
  | _, _, .nil => .nil
  | _, _, .cons ⟨p, e, h⟩ t => .cons ⟨p, e, s _ _ h⟩ (t.tk s)
theorem UVs.app {H : Hp} {v : V} {u : Unk} : ∀ {vs : List V} {as : List Unk}, UVs H vs as → UV H v u → UVs H (vs ++ [v]) (as ++ [u])
  | _, _, .nil, h => .cons h .nil
  | _, _, .cons g t, h => .cons g (t.app h)
theorem JV.tk {H H' : Hp} {v : V} {js : List (List Int)} (h : JV H v js) (s : TK H H') : JV H' v js := by
  obtain ⟨p, us, e, f, g⟩ := h
  exact ⟨p, us, e, s _ _ f, g.tk s⟩
theorem RV.tk {H H' : Hp} {v : V} {r : Row} (h : RV H v r) (s : TK H H') : RV H' v r := by
  obtain ⟨p, q, e, f, g⟩ := h
  exact ⟨p, q, e, s _ _ f, s _ _ g⟩
theorem WV.tk {H H' : Hp} {v : V} {x : Wish} (h : WV H v x) (s : TK H H') : WV H' v x := by
  cases x with
  | sum r => exact RV.tk h s
  | unlike a =>
    obtain ⟨p, u, e, f, g⟩ := h
    exact ⟨p, u, e, s _ _ f, g.tk s⟩
  | bench js =>
    obtain ⟨p, u, e, f, g⟩ := h
    exact ⟨p, u, e, s _ _ f, g.tk s⟩
  | table a ls =>
    obtain ⟨p, u, t, e, f, g, k⟩ := h
    exact ⟨p, u, t, e, s _ _ f, g.tk s, k.tk s⟩
theorem WVs.tk {H H' : Hp} (s : TK H H') : ∀ {vs : List V} {as : List Wish}, WVs H vs as → WVs H' vs as
  | _, _, .nil => .nil
  | _, _, .cons h t => .cons (h.tk s) (t.tk s)
/-! ### rows of a task -/
def sumsOf : List Wish → List Row
  | [] => []
  | .sum r :: t => r :: sumsOf t
  | .unlike _ :: t => sumsOf t
  | .bench _ :: t => sumsOf t
  | .table _ _ :: t => sumsOf t
theorem sumsOf_app : ∀ a b : List Wish, sumsOf (a ++ b) = sumsOf a ++ sumsOf b
  | [], b => rfl
  | .sum r :: t, b => congrArg (r :: ·) (sumsOf_app t b)
  | .unlike _ :: t, b => sumsOf_app t b
  | .bench _ :: t, b => sumsOf_app t b
  | .table _ _ :: t, b => sumsOf_app t b
theorem sumsOf_map (rs : List Row) : sumsOf (rs.map .sum) = rs := by
  induction rs with
  | nil => rfl
  | cons r t ih => exact congrArg (r :: ·) ih
theorem sumsOf_len (wl : List Wish) : (sumsOf wl).length ≤ wl.length := by
  induction wl with
  | nil => exact Nat.le_refl _
  | cons x t ih => cases x <;> simp only [sumsOf, List.length_cons] <;> omega
theorem sumsOf_mem {wl : List Wish} {r : Row} (h : r ∈ sumsOf wl) : Wish.sum r ∈ wl := by
  induction wl with
  | nil => simp [sumsOf] at h
  | cons x t ih =>
    cases x with
    | sum r' =>
      rcases List.mem_cons.mp h with e | h
      · rw [e]; exact List.mem_cons_self ..
      · exact List.mem_cons_of_mem _ (ih h)
    | unlike _ => exact List.mem_cons_of_mem _ (ih h)
    | bench _ => exact List.mem_cons_of_mem _ (ih h)
    | table _ _ => exact List.mem_cons_of_mem _ (ih h)
/-- a row with its number, as rows_of tells it -/
def RR (H : Hp) (v : V) (r : Row) : Prop := ∃ p k q2 qa, v = .ref p ∧ H p = some (.tup [.int k, .ref q2]) ∧ H q2 = some (.tup [.ref qa, .bl r.eq, .int r.bd]) ∧ H qa = some (tI r.am)
inductive All2 {α : Type} (R : V → α → Prop) : List V → List α → Prop
  | nil : All2 R [] []
  | cons {v : V} {vs : List V} {a : α} {as : List α} : R v a → All2 R vs as → All2 R (v :: vs) (a :: as)
theorem All2.mono {α : Type} {R R' : V → α → Prop} (h : ∀ v a, R v a → R' v a) : ∀ {vs : List V} {as : List α}, All2 R vs as → All2 R' vs as
  | _, _, .nil => .nil
  | _, _, .cons g t => .cons (h _ _ g) (t.mono h)
theorem All2.len {α : Type} {R : V → α → Prop} : ∀ {vs : List V} {as : List α}, All2 R vs as → vs.length = as.length
  | _, _, .nil => rfl
  | _, _, .cons _ t => congrArg (· + 1) t.len
theorem All2.app {α : Type} {R : V → α → Prop} {v : V} {a : α} : ∀ {vs : List V} {as : List α}, All2 R vs as → R v a → All2 R (vs ++ [v]) (as ++ [a])
  | _, _, .nil, h => .cons h .nil
  | _, _, .cons g t, h => .cons g (t.app h)
theorem All2.cat {α : Type} {R : V → α → Prop} : ∀ {vs : List V} {as : List α} {vs' : List V} {as' : List α}, All2 R vs as → All2 R vs' as' → All2 R (vs ++ vs') (as ++ as')
  | _, _, _, _, .nil, h => h
  | _, _, _, _, .cons g t, h => .cons g (t.cat h)
theorem All2.at_ {α : Type} {R : V → α → Prop} : ∀ {vs : List V} {as : List α} {i : Nat} {v : V}, All2 R vs as → vs[i]? = some v → ∃ a, as[i]? = some a ∧ R v a
  | _, _, 0, _, .cons h t, e => by
    cases e
    exact ⟨_, rfl, h⟩
  | _, _, i + 1, _, .cons h t, e => by
    obtain ⟨r, e1, e2⟩ := t.at_ (i := i) (by simpa using e)
    exact ⟨r, by simpa using e1, e2⟩
theorem All2.at2 {α : Type} {R : V → α → Prop} {vs : List V} {as : List α} {i : Nat} {a : α} (h : All2 R vs as) (e : as[i]? = some a) : ∃ v, vs[i]? = some v ∧ R v a := by
  have l := h.len
  have hi : i < vs.length := by rw [l]; exact (List.getElem?_eq_some_iff.mp e).1
  obtain ⟨a', e', g⟩ := h.at_ (List.getElem?_eq_getElem hi)
  rw [e] at e'
  cases e'
  exact ⟨_, List.getElem?_eq_getElem hi, g⟩
theorem All2.take {α : Type} {R : V → α → Prop} : ∀ (n : Nat) {vs : List V} {as : List α}, All2 R vs as → All2 R (vs.take n) (as.take n)
  | 0, _, _, _ => .nil
  | n + 1, _, _, .nil => .nil
  | n + 1, _, _, .cons g t => .cons g (t.take n)
theorem All2.drop {α : Type} {R : V → α → Prop} : ∀ (n : Nat) {vs : List V} {as : List α}, All2 R vs as → All2 R (vs.drop n) (as.drop n)
  | 0, _, _, h => h
  | n + 1, _, _, .nil => .nil
  | n + 1, _, _, .cons g t => t.drop n
theorem RR.same {H H' : Hp} {v : V} {r : Row} (h : RR H v r) (s : Same H H') : RR H' v r := by
  obtain ⟨p, k, q2, qa, e, f, g, i⟩ := h
  exact ⟨p, k, q2, qa, e, s _ _ f, s _ _ g, s _ _ i⟩
theorem RR.tk {H H' : Hp} {v : V} {r : Row} (h : RR H v r) (s : TK H H') : RR H' v r := by
  obtain ⟨p, k, q2, qa, e, f, g, i⟩ := h
  exact ⟨p, k, q2, qa, e, s _ _ f, s _ _ g, s _ _ i⟩
theorem walk_enT {K : PySem.W.Frag} {a : Addr} {xs : List V} : Walk (ItE K a) xs.length (fun H => SqT K H a xs) (YPair (fun i => some (.int (i : Nat))) (fun i => xs[i]?)) := by
  refine ⟨fun i _ hi q => ⟨xs, xs[i], q, by simp [hi]⟩, fun _ q => ⟨xs, q, rfl⟩, fun i H v H' _ q y => ?_⟩
  obtain ⟨T, x, h1, h2, h3, h4⟩ := y
  exact ⟨T, .int (i : Nat), x, h1, h2, h3, rfl, h4 xs q⟩
structure CC (K : PySem.W.Frag) (C : Addr) : Prop where
  cl : Cls K C
  nu : NoAttr K C "unknowns"
  nw : NoAttr K C "wishes"
  ng : NoAttr K C "goal"
theorem lk_u (a b c : V) : List.lookup ("unknowns" : Str) ([("unknowns", a), ("wishes", b), ("goal", c)] : List (Str × V)) = some a := by rfl
theorem lk_w (a b c : V) : List.lookup ("wishes" : Str) ([("unknowns", a), ("wishes", b), ("goal", c)] : List (Str × V)) = some b := by rfl
theorem lk_g (a b c : V) : List.lookup ("goal" : Str) ([("unknowns", a), ("wishes", b), ("goal", c)] : List (Str × V)) = some c := by rfl
theorem ixN_nat {n j : Nat} (h : j < n) : ixN n (j : Int) = some j := by
  unfold ixN
  rw [if_pos (by omega), if_pos (by omega)]; simp
theorem sums_take {wl : List Wish} {i : Nat} {x : Wish} (h : wl[i]? = some x) : sumsOf (wl.take (i + 1)) = sumsOf (wl.take i) ++ sumsOf [x] := by rw [take_one h, sumsOf_app]
section
variable {P : Program} {w : World} {K : PySem.W.Frag} {mg : Str → Option Value} {base : Heap} {aW aT : Addr} {es : Array DictEntry} {nn : Nat}
abbrev s_rows_of : Stmt := topS 30
abbrev n_rows_of : List Str := ["task", "k", "wish"]
theorem sc_rows_of : FnScope n_rows_of ["task"] (defScope s_rows_of) := ⟨rfl, rfl, rfl, by decide +kernel, rfl, by decide +kernel, by decide +kernel⟩
def spRows (C : Addr) : Sp := fun vs H Q _ => ∃ (tv : V) (ul : List Unk) (wl : List Wish) (goal : List Int), vs = [tv] ∧ TaskV C H tv ul wl goal ∧ wl.length ≤ 100 ∧ ∀ H' q us, Same H H' → H' q = some (.tup us) → All2 (RR H') us (sumsOf wl) → Q (.ref q) H'
theorem ok_rows_of {f C : Addr} {fd : FuncData} (F : Fun K "rows_of" "rows_of" s_rows_of f fd) (T : Txt K mg w aW aT es nn) (cc : CC K C) : FnOk P w K mg base CX0 1 f fd ["task"] (spRows C) := by
  refine F.ok sc_rows_of (fun vs H Q E h => ?_) (fun cdv A outer s H vs Q E hr h => ?_)
  · obtain ⟨tv, ul, wl, goal, rfl, _⟩ := h
    rfl
  · obtain ⟨tv, ul, wl, goal, rfl, ⟨x, dx, pu, pw, pg, us, ws, rfl, hx, hpu, uv, hpw, wv, hpg⟩, l100, fin⟩ := h
    refine ⟨_, (pss_one (ps_ret (pe_callTy call_tuple_of (by rfl) T.b_tuple (by decide +kernel) (pa_cons (pe_lc (own := [("k", 1), ("wish", 2)]) (g := gTup K 2 (gCons (gName 1) (gCons (gName 2) gNil))) rfl sc_rows_of.nd (pi_enT (by rfl) T.b_enumerate (pa_cons (pe_fld (pv 0) (by rfl)) pa_nil)) (blkOk_by (N := n_rows_of) (sc := defScope s_rows_of) (by decide +kernel)) (fun _ _ _ _ _ => (pg_tup rfl (pgs_cons (pg_name (i := 1) sc_rows_of.nd rfl (.inl rfl)) (pgs_cons (pg_name (i := 2) sc_rows_of.nd rfl (.inl rfl)) pgs_nil)))) (fun _ _ _ _ _ => (pts_one (pt_cmpR op_eq (pe_ix (r := rIxT K) ix_tup (pv 2) pe_int (fun _ _ => rfl)) pe_str (nomark _)))) (fun _ _ _ _ _ => (pe_tup (pa_cons (pv 1) (pa_cons (pe_slice (r := rSlA K) sl_tupA (pv 2) (po_some pe_int) po_none) pa_nil))))) pa_nil)))), ?_⟩
    have lw := wv.len
    refine ⟨_, rfl, x, C, dx, _, _, rfl, hx, cc.cl, cc.nw, lk_w _ _ _, pw, ws, rfl, sq_tup hpw, fun D nD => ?_⟩
    refine lc_it walk_enT (fun i H' => ∃ us : List V, H' D = some (.lst us) ∧ Same H H' ∧ All2 (RR H') us (sumsOf (wl.take i))) ⟨[], upd_same, same_upd nD, .nil⟩ (fun i H' _ h => by obtain ⟨_, _, sm, _⟩ := h; exact sq_tup (sm _ _ hpw)) ?_ ?_
    · rintro i x1 H1 H2 hi ⟨us1, hD, sm, al⟩ ⟨T', k1, w1, rfl, nT, rfl, hk, hw⟩
      cases hk
      obtain ⟨wi, hwi, wvi⟩ := wv.at_ hw
      have sT := same_at (o := .tup [.int (i : Nat), w1]) sm (sm.free nT)
      have s1T := same_upd (o := .tup [.int (i : Nat), w1]) nT
      have hDT : upd H1 T' (.tup [.int (i : Nat), w1]) D = some (.lst us1) := s1T _ _ hD
      have al2 := al.mono (fun v r (h : RR H1 v r) => h.same s1T)
      have lu := al.len
      have ll := sumsOf_len (wl.take i)
      rw [List.length_take] at ll
      have wv2 := wvi.same sT
      have eT : upd H1 T' (.tup [.int (i : Nat), w1]) T' = some (.tup [.int (i : Nat), w1]) := upd_same
      generalize upd H1 T' (.tup [.int (i : Nat), w1]) = H2 at *
      refine ⟨T', _, rfl, sq_tup eT, rfl, _, _, rfl, _, _, rfl, rfl, rfl, ?_⟩
      cases wi with
      | sum r =>
        obtain ⟨pw1, qa, rfl, hp1, hqa⟩ := wv2
        refine ⟨_, rfl, pw1, _, 0, _, rfl, rfl, sq_tup hp1, rfl, rfl, _, rfl, iteT ?_⟩
        refine ⟨_, rfl, _, rfl, _, rfl, pw1, _, rfl, sq_tup hp1, (fun z => absurd (show (1 : Nat) = 0 from z.1) (by decide)), fun _ y ny => ⟨len2, fun t nt => ?_⟩⟩
        have k2 := same_upd (o := .tup [.ref qa, .bl r.eq, .int r.bd]) ny
        have k3 := k2.trans (same_upd (o := .tup [.int (i : Nat), .ref y]) nt)
        refine ⟨us1, k3 _ _ hDT, small1000 (by omega), us1 ++ [.ref t], upd_same, same_at (sT.trans k3) nD, ?_⟩
        have hD3 := k3 _ _ hDT
        have tk : TK H2 (upd (upd (upd H2 y (.tup [.ref qa, .bl r.eq, .int r.bd])) t (.tup [.int (i : Nat), .ref y])) D (.lst (us1 ++ [.ref t]))) := (TK.of k3).trans (TK.put hD3)
        rw [sums_take hwi]
        refine (al2.mono (fun v r (h : RR H2 v r) => h.tk tk)).app ⟨t, (i : Nat), y, qa, rfl, ?_, ?_, tk _ _ hqa⟩
        · exact TK.put hD3 _ _ upd_same
        · refine TK.put hD3 _ _ (TK.of (same_upd nt) _ _ upd_same)
      | unlike a =>
        obtain ⟨pw1, u, rfl, hp1, _⟩ := wv2
        exact ⟨_, rfl, pw1, _, 0, _, rfl, rfl, sq_tup hp1, rfl, rfl, _, rfl, iteF ⟨us1, hDT, sT, by rw [sums_take hwi, show sumsOf [Wish.unlike a] = [] from rfl, List.append_nil]; exact al2⟩⟩
      | bench js =>
        obtain ⟨pw1, u, rfl, hp1, _⟩ := wv2
        exact ⟨_, rfl, pw1, _, 0, _, rfl, rfl, sq_tup hp1, rfl, rfl, _, rfl, iteF ⟨us1, hDT, sT, by rw [sums_take hwi, show sumsOf [Wish.bench js] = [] from rfl, List.append_nil]; exact al2⟩⟩
      | table a ls =>
        obtain ⟨pw1, u, t, rfl, hp1, _⟩ := wv2
        exact ⟨_, rfl, pw1, _, 0, _, rfl, rfl, sq_tup hp1, rfl, rfl, _, rfl, iteF ⟨us1, hDT, sT, by rw [sums_take hwi, show sumsOf [Wish.table a ls] = [] from rfl, List.append_nil]; exact al2⟩⟩
    · rintro H2 ⟨us1, hD, sm, al⟩
      rw [lw, List.take_length] at al
      refine ⟨D, _, rfl, .inl ⟨sq_lst hD, fun l nl => ?_⟩⟩
      have k3 := same_upd (o := .tup us1) nl
      exact fin _ l us1 (sm.trans k3) upd_same (al.mono fun v r (h : RR H2 v r) => h.same k3)
end
end M56

namespace M56
open PySem PySem.Spec PyProof.Rows L2 SX Own Gd
open C8 (Cal pe_c pe_gc pe_mk Mak pss_cut)
/-! ### which ways are free -/
def amAt (r : Row) (k : Nat) : Int := r.am.getD k 0
def dnB (r : Row) (k : Nat) : Bool := !(decide (0 < amAt r k) || (r.eq && decide (amAt r k ≠ 0)))
def upB (r : Row) (k : Nat) : Bool := !(decide (amAt r k < 0) || (r.eq && decide (amAt r k ≠ 0)))
def ways (rl : List Row) (k : Nat) : Bool × Bool := (rl.all (dnB · k), rl.all (upB · k))
def bls (n : Nat) (g : Nat → Bool) : List V := ((List.range n).map g).map V.bl
theorem bls_len (n : Nat) (g : Nat → Bool) : (bls n g).length = n := by unfold bls; rw [List.length_map, List.length_map, List.length_range]
theorem bls_ext {n : Nat} {g h : Nat → Bool} (e : ∀ k, k < n → g k = h k) : bls n g = bls n h := by
  unfold bls
  congr 1
  exact List.map_congr_left fun k hk => e k (List.mem_range.mp hk)
theorem bls_set {n j : Nat} {g : Nat → Bool} {b : Bool} (hj : j < n) : (bls n g).set j (.bl b) = bls n (fun k => if k = j then b else g k) := by
  refine List.ext_getElem? fun i => ?_
  unfold bls
  rw [List.getElem?_set]
  by_cases e : j = i
  · subst e
    rw [if_pos rfl, if_pos (by rw [List.length_map, List.length_map, List.length_range]; exact hj)]
    simp [hj]
  · rw [if_neg e]
    by_cases hi : i < n
    · simp [hi, Ne.symm e]
    · simp [hi]
theorem bls_all (n : Nat) : List.replicate n (V.bl true) = bls n (fun _ => true) := by
  unfold bls
  refine List.ext_getElem? fun i => ?_
  by_cases hi : i < n
  · simp [hi]
  · simp [hi]
/-- before row i, place j of it -/
def gAt (P : Row → Nat → Bool) (rl : List Row) (i j k : Nat) : Bool := (rl.take (if k < j then i + 1 else i)).all (P · k)
theorem all_take {P : Row → Nat → Bool} {rl : List Row} {i k : Nat} {r : Row} (h : rl[i]? = some r) : (rl.take (i + 1)).all (P · k) = ((rl.take i).all (P · k) && P r k) := by
  rw [take_one h, List.all_append]; simp
theorem g_step {P : Row → Nat → Bool} {rl : List Row} {i j n : Nat} {r : Row} (h : rl[i]? = some r) (hj : j < n) :
    (if P r j = false then (bls n (gAt P rl i j)).set j (.bl false) else bls n (gAt P rl i j)) = bls n (gAt P rl i (j + 1)) := by
  by_cases hp : P r j = false
  · rw [if_pos hp, bls_set hj]
    refine bls_ext fun k hk => ?_
    unfold gAt
    by_cases e : k = j
    · subst e
      rw [if_pos rfl, if_pos (by omega), all_take h, hp, Bool.and_false]
    · rw [if_neg e]
      by_cases l : k < j
      · rw [if_pos l, if_pos (by omega)]
      · rw [if_neg l, if_neg (by omega)]
  · rw [if_neg hp]
    have hp : P r j = true := by simpa using hp
    refine bls_ext fun k hk => ?_
    unfold gAt
    by_cases e : k = j
    · subst e
      rw [if_neg (by omega), if_pos (by omega), all_take h, hp, Bool.and_true]
    · by_cases l : k < j
      · rw [if_pos l, if_pos (by omega)]
      · rw [if_neg l, if_neg (by omega)]
theorem g_row {P : Row → Nat → Bool} {rl : List Row} {i n : Nat} : bls n (gAt P rl i n) = bls n (gAt P rl (i + 1) 0) := by
  refine bls_ext fun k hk => ?_
  unfold gAt
  rw [if_pos hk, if_neg (by omega)]
theorem g_zero {P : Row → Nat → Bool} {rl : List Row} {n : Nat} : bls n (fun _ => true) = bls n (gAt P rl 0 0) := by
  refine bls_ext fun k hk => ?_
  unfold gAt
  rw [if_neg (by omega), List.take_zero]; rfl
theorem g_end {P : Row → Nat → Bool} {rl : List Row} {n : Nat} : bls n (gAt P rl rl.length 0) = bls n (fun k => rl.all (P · k)) := by
  refine bls_ext fun k hk => ?_
  unfold gAt
  rw [if_neg (by omega), List.take_length]
def PB (H : Hp) (v : V) (x : Bool × Bool) : Prop := ∃ p, v = .ref p ∧ H p = some (.tup [.bl x.1, .bl x.2])
theorem PB.same {H H' : Hp} {v : V} {x : Bool × Bool} (h : PB H v x) (s : Same H H') : PB H' v x := by
  obtain ⟨p, e, f⟩ := h
  exact ⟨p, e, s _ _ f⟩
theorem PB.tk {H H' : Hp} {v : V} {x : Bool × Bool} (h : PB H v x) (s : TK H H') : PB H' v x := by
  obtain ⟨p, e, f⟩ := h
  exact ⟨p, e, s _ _ f⟩
theorem all2_of {α : Type} {R : V → α → Prop} : ∀ {vs : List V} {as : List α}, vs.length = as.length → (∀ (i : Nat) v a, vs[i]? = some v → as[i]? = some a → R v a) → All2 R vs as
  | [], [], _, _ => .nil
  | v :: vs, a :: as, l, h => .cons (h 0 v a rfl rfl) (all2_of (by simpa using l) fun i v a e f => h (i + 1) v a (by simpa using e) (by simpa using f))
  | [], _ :: _, l, _ => by simp at l
  | _ :: _, [], l, _ => by simp at l
theorem repf (n : Nat) (v : V) : (List.replicate n [v]).flatten = List.replicate n v := by
  induction n with
  | zero => rfl
  | succ n ih => rw [List.replicate_succ, List.flatten_cons, ih, List.replicate_succ]; rfl
structure FW (H Hr H' : Hp) (pf pr : Addr) (n : Nat) (rl : List Row) (i j i2 j2 : Nat) : Prop where
  sm : Same H H'
  tk : TK Hr H'
  nf : H pf = none
  nr : H pr = none
  ne : pf ≠ pr
  ef : H' pf = some (.lst (bls n (gAt dnB rl i j)))
  er : H' pr = some (.lst (bls n (gAt upB rl i2 j2)))
theorem FW.new {H Hr H' : Hp} {pf pr : Addr} {n : Nat} {rl : List Row} {i j i2 j2 : Nat} {t : Addr} {o : HO} (g : FW H Hr H' pf pr n rl i j i2 j2) (nt : H' t = none) : FW H Hr (upd H' t o) pf pr n rl i j i2 j2 :=
  have s := same_upd (o := o) nt
  ⟨g.sm.trans s, g.tk.trans (.of s), g.nf, g.nr, g.ne, s _ _ g.ef, s _ _ g.er⟩
theorem FW.setF {H Hr H' : Hp} {pf pr : Addr} {n : Nat} {rl : List Row} {i j i2 j2 : Nat} {r : Row} (g : FW H Hr H' pf pr n rl i j i2 j2) (h : rl[i]? = some r) (hj : j < n) (hp : dnB r j = false) : FW H Hr (upd H' pf (.lst ((bls n (gAt dnB rl i j)).set j (.bl false)))) pf pr n rl i (j + 1) i2 j2 := by
  refine ⟨same_at g.sm g.nf, g.tk.trans (.put g.ef), g.nf, g.nr, g.ne, ?_, by rw [upd_ne g.ne.symm]; exact g.er⟩
  rw [upd_same, ← g_step h hj, if_pos hp]
theorem FW.keepF {H Hr H' : Hp} {pf pr : Addr} {n : Nat} {rl : List Row} {i j i2 j2 : Nat} {r : Row} (g : FW H Hr H' pf pr n rl i j i2 j2) (h : rl[i]? = some r) (hj : j < n) (hp : dnB r j ≠ false) : FW H Hr H' pf pr n rl i (j + 1) i2 j2 := by
  refine ⟨g.sm, g.tk, g.nf, g.nr, g.ne, ?_, g.er⟩
  rw [g.ef, ← g_step h hj, if_neg hp]
theorem FW.setR {H Hr H' : Hp} {pf pr : Addr} {n : Nat} {rl : List Row} {i j i2 j2 : Nat} {r : Row} (g : FW H Hr H' pf pr n rl i j i2 j2) (h : rl[i2]? = some r) (hj : j2 < n) (hp : upB r j2 = false) : FW H Hr (upd H' pr (.lst ((bls n (gAt upB rl i2 j2)).set j2 (.bl false)))) pf pr n rl i j i2 (j2 + 1) := by
  refine ⟨same_at g.sm g.nr, g.tk.trans (.put g.er), g.nf, g.nr, g.ne, by rw [upd_ne g.ne]; exact g.ef, ?_⟩
  rw [upd_same, ← g_step h hj, if_pos hp]
theorem FW.keepR {H Hr H' : Hp} {pf pr : Addr} {n : Nat} {rl : List Row} {i j i2 j2 : Nat} {r : Row} (g : FW H Hr H' pf pr n rl i j i2 j2) (h : rl[i2]? = some r) (hj : j2 < n) (hp : upB r j2 ≠ false) : FW H Hr H' pf pr n rl i j i2 (j2 + 1) := by
  refine ⟨g.sm, g.tk, g.nf, g.nr, g.ne, g.ef, ?_⟩
  rw [g.er, ← g_step h hj, if_neg hp]
theorem FW.row {H Hr H' : Hp} {pf pr : Addr} {n : Nat} {rl : List Row} {i : Nat} (g : FW H Hr H' pf pr n rl i n i n) : FW H Hr H' pf pr n rl (i + 1) 0 (i + 1) 0 :=
  ⟨g.sm, g.tk, g.nf, g.nr, g.ne, by rw [g.ef, g_row], by rw [g.er, g_row]⟩
theorem dnB_f {r : Row} {j : Nat} {c : Int} (h : r.am[j]? = some c) : dnB r j = !(decide (0 < c) || (r.eq && decide (c ≠ 0))) := by
  unfold dnB amAt
  rw [List.getD_eq_getElem?_getD, h]; rfl
theorem upB_f {r : Row} {j : Nat} {c : Int} (h : r.am[j]? = some c) : upB r j = !(decide (c < 0) || (r.eq && decide (c ≠ 0))) := by
  unfold upB amAt
  rw [List.getD_eq_getElem?_getD, h]; rfl
section
variable {P : Program} {w : World} {K : PySem.W.Frag} {mg : Str → Option Value} {base : Heap} {aW aT : Addr} {es : Array DictEntry} {nn : Nat}
abbrev s_free_ways : Stmt := topS 32
abbrev n_free_ways : List Str := ["task", "falls", "rises", "_", "coefficients", "equal", "at", "times"]
theorem sc_free_ways : FnScope n_free_ways ["task"] (defScope s_free_ways) := ⟨rfl, rfl, rfl, by decide +kernel, rfl, by decide +kernel, by decide +kernel⟩
def spFree (C : Addr) : Sp := fun vs H Q _ => ∃ (tv : V) (ul : List Unk) (wl : List Wish) (goal : List Int), vs = [tv] ∧ TaskV C H tv ul wl goal ∧ wl.length ≤ 100 ∧ ul.length ≤ 100 ∧ (∀ r ∈ sumsOf wl, r.am.length = ul.length) ∧
  ∀ H' q us, Same H H' → H' q = some (.tup us) → All2 (PB H') us ((List.range ul.length).map (ways (sumsOf wl))) → Q (.ref q) H'
theorem ok_free_ways {f C : Addr} {fd : FuncData} (F : Fun K "free_ways" "free_ways" s_free_ways f fd) (T : Txt K mg w aW aT es nn) (cc : CC K C) (c_rows_of : Cal P w K mg base 1 "rows_of" (spRows C) []) : FnOk P w K mg base CX0 2 f fd ["task"] (spFree C) := by
  refine F.ok sc_free_ways (fun vs H Q E h => ?_) (fun cdv A outer s H vs Q E hr h => ?_)
  · obtain ⟨tv, ul, wl, goal, rfl, _⟩ := h
    rfl
  · obtain ⟨tv, ul, wl, goal, rfl, tk0, l100, u100, lam, fin⟩ := h
    obtain ⟨x, dx, pu, pw, pg, us, ws, rfl, hx, hpu, uv, hpw, wv, hpg⟩ := id tk0
    have lu := uv.len
    have k0 := sumsOf_len wl
    refine ⟨_, (pss_cons (ps_set (i := 1) sc_free_ways.nd rfl (.inl rfl) (pe_op op_rep (pe_lst (pa_cons pe_bl pa_nil)) (pe_callB call_len_seq (by rfl) T.b_len (by decide +kernel) (pa_cons (pe_fld (pv 0) (by rfl)) pa_nil))))
      (pss_cons (ps_set (i := 2) sc_free_ways.nd rfl (.inl rfl) (pe_op op_rep (pe_lst (pa_cons pe_bl pa_nil)) (pe_callB call_len_seq (by rfl) T.b_len (by decide +kernel) (pa_cons (pe_fld (pv 0) (by rfl)) pa_nil))))
      (pss_cons (ps_for PassesOwn.never rfl (pi_tup (pe_c c_rows_of hr (by decide) (by rfl) (pa_cons (pv 0) pa_nil))) (pg_tup rfl (pgs_cons (pg_name (i := 3) sc_free_ways.nd rfl (.inl rfl)) (pgs_cons (pg_tup rfl (pgs_cons (pg_name (i := 4) sc_free_ways.nd rfl (.inl rfl)) (pgs_cons (pg_name (i := 5) sc_free_ways.nd rfl (.inl rfl)) (pgs_cons (pg_name (i := 3) sc_free_ways.nd rfl (.inl rfl)) pgs_nil)))) pgs_nil))) (pss_one (ps_for PassesOwn.never rfl (pi_enT (by rfl) T.b_enumerate (pa_cons (pv 4) pa_nil)) (pg_tup rfl (pgs_cons (pg_name (i := 6) sc_free_ways.nd rfl (.inl rfl)) (pgs_cons (pg_name (i := 7) sc_free_ways.nd rfl (.inl rfl)) pgs_nil))) (pss_cut (ps_if (PW.pt (pw_or (pt_cmpR op_gt (pv 7) pe_int (nomark _)) (pw_or1 (PW.pt (pw_and (pt_val (pv 5)) (pw_and1 (pt_cmpR op_ne (pv 7) pe_int (nomark _)))))))) (pss_one (ps_asg pe_bl (pg_sub (pv 1) (pv 6) set_list))) pss_nil)
          (pss_one (ps_if (PW.pt (pw_or (pt_cmpR op_lt (pv 7) pe_int (nomark _)) (pw_or1 (PW.pt (pw_and (pt_val (pv 5)) (pw_and1 (pt_cmpR op_ne (pv 7) pe_int (nomark _)))))))) (pss_one (ps_asg pe_bl (pg_sub (pv 2) (pv 6) set_list))) pss_nil))))))
      (pss_one (ps_ret (Z3.pe_tupZip (by rfl) T.b_tuple (by rfl) T.b_zip (pa_cons (pv 1) (pa_cons (pv 2) pa_nil)))))))), ?_⟩
    refine ⟨len1, fun p1 np1 => ?_⟩
    have k1 := same_upd (o := .lst [.bl true]) np1
    refine ⟨_, rfl, x, C, dx, _, _, rfl, k1 _ _ hx, cc.cl, cc.nu, lk_u _ _ _, pu, us, rfl, .inr (sq_tup (k1 _ _ hpu)), p1, _, _, rfl, rfl, upd_same, by omega, by omega, by rw [sizeLine_eq]; simp; omega, fun pf npf => ?_⟩
    have k2 := k1.trans (same_upd (o := .lst (List.replicate ((us.length : Nat) : Int).toNat [V.bl true]).flatten) npf)
    have ef : upd (upd H p1 (.lst [.bl true])) pf (.lst (List.replicate ((us.length : Nat) : Int).toNat [V.bl true]).flatten) pf = some (.lst (bls ul.length (fun _ => true))) := by
      rw [upd_same, repf, Int.toNat_natCast, lu, bls_all]
    have nfH := k1.free npf
    generalize upd (upd H p1 (.lst [.bl true])) pf (.lst (List.replicate ((us.length : Nat) : Int).toNat [V.bl true]).flatten) = H2 at *
    refine ⟨len1, fun p2 np2 => ?_⟩
    have k3 := same_upd (o := .lst [.bl true]) np2
    have k23 := k2.trans k3
    refine ⟨_, rfl, x, C, dx, _, _, rfl, k23 _ _ hx, cc.cl, cc.nu, lk_u _ _ _, pu, us, rfl, .inr (sq_tup (k23 _ _ hpu)), p2, _, _, rfl, rfl, upd_same, by omega, by omega, by rw [sizeLine_eq]; simp; omega, fun pr npr => ?_⟩
    have k4 := same_upd (o := .lst (List.replicate ((us.length : Nat) : Int).toNat [V.bl true]).flatten) npr
    have ef3 := k4 _ _ (k3 _ _ ef)
    have er : upd (upd H2 p2 (.lst [.bl true])) pr (.lst (List.replicate ((us.length : Nat) : Int).toNat [V.bl true]).flatten) pr = some (.lst (bls ul.length (fun _ => true))) := by
      rw [upd_same, repf, Int.toNat_natCast, lu, bls_all]
    have nrH := k23.free npr
    have nefr : pf ≠ pr := ne_of_none (k3 _ _ ef) npr
    have k24 := k23.trans k4
    generalize upd (upd H2 p2 (.lst [.bl true])) pr (.lst (List.replicate ((us.length : Nat) : Int).toNat [V.bl true]).flatten) = H4 at *
    refine ⟨_, rfl, .ref x, ul, wl, goal, rfl, ⟨x, dx, pu, pw, pg, us, ws, rfl, k24 _ _ hx, k24 _ _ hpu, uv.same k24, k24 _ _ hpw, wv.same k24, k24 _ _ hpg⟩, l100, fun H5 q rs s5 hq al => ?_⟩
    have lal := al.len
    refine ⟨q, rfl, ⟨_, sq_tup hq⟩, for_tup (K := K) (a := q) (xs := rs) (fun i σ H' => ∃ y3 y4 y5 y6 y7, σ = [some (.ref x), some (.ref pf), some (.ref pr), y3, y4, y5, y6, y7] ∧ FW H H5 H' pf pr ul.length (sumsOf wl) i 0 i 0)
      ⟨none, none, none, none, none, rfl, k24.trans s5, fun _ _ e => e, nfH, nrH, nefr, by rw [s5 _ _ ef3, g_zero], by rw [s5 _ _ er, g_zero]⟩ (fun i σ H' _ h => by obtain ⟨_, _, _, _, _, _, g⟩ := h; exact sq_tup (g.tk _ _ hq)) (fun i v σ H' hv h => ?_) (fun σ H' h => ?_)⟩
    · obtain ⟨y3, y4, y5, y6, y7, rfl, g⟩ := h
      obtain ⟨r, hr', p, kk, q2, qa, rfl, hp, hq2, hqa⟩ := al.at_ hv
      have lr := lam r (List.mem_of_getElem? hr')
      refine ⟨p, _, rfl, sq_tup (g.tk _ _ hp), rfl, _, _, rfl, _, _, rfl, q2, _, rfl, sq_tup (g.tk _ _ hq2), rfl, _, _, rfl, _, _, rfl, _, _, rfl, rfl, rfl, ?_⟩
      refine ⟨_, rfl, qa, _, rfl, sq_tup (g.tk _ _ hqa), for_enT (K := K) (a := qa) (xs := r.am.map V.int) (fun j σ H' => ∃ y6 y7, σ = [some (.ref x), some (.ref pf), some (.ref pr), some (.int r.bd), some (.ref qa), some (.bl r.eq), y6, y7] ∧ FW H H5 H' pf pr ul.length (sumsOf wl) i j i j)
        ⟨_, _, rfl, g⟩ (fun j σ H' h => by obtain ⟨_, _, _, g⟩ := h; exact sq_tup (g.tk _ _ hqa)) (fun j v T' σ H' hv h nT => ?_) (fun σ H' h => ?_)⟩
      · obtain ⟨y6, y7, rfl, g⟩ := h
        obtain ⟨c, hc, rfl⟩ := at_map hv
        have hj : j < ul.length := by have := (List.getElem?_eq_some_iff.mp hc).1; omega
        have g := g.new (o := .tup [.int (j : Nat), .int c]) nT
        have eT : upd H' T' (.tup [.int (j : Nat), .int c]) T' = some (.tup [.int (j : Nat), .int c]) := upd_same
        generalize upd H' T' (.tup [.int (j : Nat), .int c]) = H6 at *
        refine ⟨T', _, rfl, sq_tup eT, rfl, _, _, rfl, _, _, rfl, rfl, ?_⟩
        refine ⟨fun σ H' => σ = [some (.ref x), some (.ref pf), some (.ref pr), some (.int r.bd), some (.ref qa), some (.bl r.eq), some (.int (j : Nat)), some (.int c)] ∧ FW H H5 H' pf pr ul.length (sumsOf wl) i (j + 1) i j, ?_, fun σ H7 hM => ?_⟩
        ·
          have hlj : j < (bls ul.length (gAt dnB (sumsOf wl) i j)).length := by rw [bls_len]; exact hj
          by_cases h1 : 0 < c
          · have hp : dnB r j = false := by rw [dnB_f hc, decide_eq_true h1]; rfl
            exact ⟨_, rfl, _, _, rfl, rfl, _, rfl, ite2 (fun _ => iteT ⟨_, rfl, _, rfl, pf, _, _, j, rfl, rfl, g.ef, ixN_nat hlj, ⟨rfl, g.setF hr' hj hp⟩⟩) (fun h => absurd (decide_eq_true h1) h)⟩
          · refine ⟨_, rfl, _, _, rfl, rfl, _, rfl, ite2 (fun h => absurd (of_decide_eq_true h) h1) (fun _ => ?_)⟩
            cases he : r.eq with
            | false =>
              have hp : dnB r j ≠ false := by rw [dnB_f hc, decide_eq_false h1, he, Bool.false_and]; simp
              exact ⟨_, rfl, false, rfl, iteF (iteF ⟨rfl, g.keepF hr' hj hp⟩)⟩
            | true =>
              by_cases h2 : c = 0
              · have hp : dnB r j ≠ false := by rw [dnB_f hc, decide_eq_false h1, he, h2]; simp
                subst h2
                exact ⟨_, rfl, true, rfl, iteT ⟨_, rfl, rfl, _, rfl, ite2 (fun h => absurd h (by simp)) (fun _ => ⟨rfl, g.keepF hr' hj hp⟩)⟩⟩
              · have hp : dnB r j = false := by rw [dnB_f hc, decide_eq_false h1, he, decide_eq_true h2]; rfl
                exact ⟨_, rfl, true, rfl, iteT ⟨_, rfl, rfl, _, rfl, ite2 (fun _ => ⟨_, rfl, _, rfl, pf, _, _, j, rfl, rfl, g.ef, ixN_nat hlj, ⟨rfl, g.setF hr' hj hp⟩⟩) (fun h => absurd (by simp [h2]) h)⟩⟩
        · obtain ⟨rfl, g⟩ := hM
          have hlj : j < (bls ul.length (gAt upB (sumsOf wl) i j)).length := by rw [bls_len]; exact hj
          by_cases h1 : c < 0
          · have hp : upB r j = false := by rw [upB_f hc, decide_eq_true h1]; rfl
            exact ⟨_, rfl, _, _, rfl, rfl, _, rfl, ite2 (fun _ => iteT ⟨_, rfl, _, rfl, pr, _, _, j, rfl, rfl, g.er, ixN_nat hlj, ⟨_, _, rfl, g.setR hr' hj hp⟩⟩) (fun h => absurd (decide_eq_true h1) h)⟩
          · refine ⟨_, rfl, _, _, rfl, rfl, _, rfl, ite2 (fun h => absurd (of_decide_eq_true h) h1) (fun _ => ?_)⟩
            cases he : r.eq with
            | false =>
              have hp : upB r j ≠ false := by rw [upB_f hc, decide_eq_false h1, he, Bool.false_and]; simp
              exact ⟨_, rfl, false, rfl, iteF (iteF ⟨_, _, rfl, g.keepR hr' hj hp⟩)⟩
            | true =>
              by_cases h2 : c = 0
              · have hp : upB r j ≠ false := by rw [upB_f hc, decide_eq_false h1, he, h2]; simp
                subst h2
                exact ⟨_, rfl, true, rfl, iteT ⟨_, rfl, rfl, _, rfl, ite2 (fun h => absurd h (by simp)) (fun _ => ⟨_, _, rfl, g.keepR hr' hj hp⟩)⟩⟩
              · have hp : upB r j = false := by rw [upB_f hc, decide_eq_false h1, he, decide_eq_true h2]; rfl
                exact ⟨_, rfl, true, rfl, iteT ⟨_, rfl, rfl, _, rfl, ite2 (fun _ => ⟨_, rfl, _, rfl, pr, _, _, j, rfl, rfl, g.er, ixN_nat hlj, ⟨_, _, rfl, g.setR hr' hj hp⟩⟩) (fun h => absurd (by simp [h2]) h)⟩⟩
      · obtain ⟨y6, y7, rfl, g⟩ := h
        rw [List.length_map, lr] at g
        exact ⟨_, _, _, _, _, rfl, g.row⟩
    · obtain ⟨y3, y4, y5, y6, y7, rfl, g⟩ := h
      rw [lal] at g
      have ef := g.ef
      have er := g.er
      rw [g_end] at ef er
      refine ⟨_, rfl, _, rfl, pf, pr, _, _, rfl, sq_lst ef, sq_lst er, by rw [bls_len, bls_len], by rw [bls_len]; omega, fun Ts H7 t lT s7 pr7 nt => ?_⟩
      rw [bls_len] at lT
      have k8 := same_upd (o := .tup (Ts.map V.ref)) nt
      refine fin _ t _ ((g.sm.trans s7).trans k8) upd_same (all2_of (by rw [List.length_map, List.length_map, List.length_range, lT]) fun k v a hv ha => ?_)
      rw [List.getElem?_map] at hv ha
      obtain ⟨T', hT', rfl⟩ := Option.map_eq_some_iff.mp hv
      obtain ⟨k', hk', rfl⟩ := Option.map_eq_some_iff.mp ha
      have hk : k < ul.length := by have := (List.getElem?_eq_some_iff.mp hk').1; rw [List.length_range] at this; exact this
      have ek : k' = k := by rw [List.getElem?_range hk] at hk'; exact (Option.some.inj hk').symm
      subst ek
      refine ⟨T', rfl, k8 _ _ (pr7 k' T' _ _ hT' ?_ ?_)⟩
      · unfold bls; simp [hk]; rfl
      · unfold bls; simp [hk]; rfl
end
end M56

namespace M56
open PySem PySem.Spec PyProof.Rows L2 SX Own Gd
open C8 (Cal pe_c pe_gc pe_mk Mak pss_cut)
/-! ### rounding -/
def tL (a : List Int) : HO := .lst (a.map V.int)
abbrev Fr := Int × Int
def FV (H : Hp) (v : V) (f : Fr) : Prop := ∃ p, v = .ref p ∧ H p = some (.tup [.int f.1, .int f.2])
theorem FV.tk {H H' : Hp} {v : V} {f : Fr} (h : FV H v f) (s : TK H H') : FV H' v f := by
  obtain ⟨p, e, g⟩ := h
  exact ⟨p, e, s _ _ g⟩
def SV (H : Hp) (v : V) (st : List Fr) : Prop := ∃ p us, v = .ref p ∧ H p = some (.tup us) ∧ All2 (FV H) us st
theorem SV.tk {H H' : Hp} {v : V} {st : List Fr} (h : SV H v st) (s : TK H H') : SV H' v st := by
  obtain ⟨p, us, e, f, g⟩ := h
  exact ⟨p, us, e, s _ _ f, g.mono fun v x k => k.tk s⟩
theorem SV.same {H H' : Hp} {v : V} {st : List Fr} (h : SV H v st) (s : Same H H') : SV H' v st := h.tk (.of s)
def FrOk (f : Fr) : Prop := 0 < f.2 ∧ f.2 ≤ 1000000
def rstep (f : Fr) (w : Bool × Bool) (g : Int) : Option Int :=
  if f.2 = 1 then some (f.1 / f.2) else if w.1 = false ∧ w.2 = false then none else some (if w.1 = true ∧ (0 ≤ g ∨ w.2 = false) then f.1 / f.2 else f.1 / f.2 + 1)
def rndN (rs : Nat → Option Int) : Nat → Option (List Int)
  | 0 => some []
  | n + 1 => match rndN rs n with
    | none => none
    | some l => match rs n with
      | none => none
      | some x => some (l ++ [x])
theorem rndN_none {rs : Nat → Option Int} {i : Nat} (h : rndN rs i = none) : ∀ n, i ≤ n → rndN rs n = none
  | 0, hn => by
    have : i = 0 := by omega
    subst this; exact h
  | n + 1, hn => by
    by_cases e : i = n + 1
    · subst e; exact h
    · show (match rndN rs n with | none => none | some l => _) = none
      rw [rndN_none h n (by omega)]
theorem rndN_none1 {rs : Nat → Option Int} {i : Nat} (h : rs i = none) : rndN rs (i + 1) = none := by
  show (match rndN rs i with | none => none | some l => _) = none
  cases rndN rs i with
  | none => rfl
  | some l => rw [h]
theorem rndN_some {rs : Nat → Option Int} {i : Nat} {l : List Int} {x : Int} (h : rndN rs i = some l) (hx : rs i = some x) : rndN rs (i + 1) = some (l ++ [x]) := by
  show (match rndN rs i with | none => none | some l => _) = _
  rw [h, hx]
theorem rndN_len {rs : Nat → Option Int} : ∀ {n : Nat} {l : List Int}, rndN rs n = some l → l.length = n
  | 0, l, h => by cases h; rfl
  | n + 1, l, h => by
    have h' : (match rndN rs n with | none => none | some l => match rs n with | none => none | some x => some (l ++ [x])) = some l := h
    cases e : rndN rs n with
    | none => rw [e] at h'; cases h'
    | some m =>
      rw [e] at h'
      cases e2 : rs n with
      | none => rw [e2] at h'; cases h'
      | some x =>
        rw [e2] at h'
        cases h'
        rw [List.length_append, rndN_len e]; rfl
theorem rndN_at {rs : Nat → Option Int} : ∀ {n : Nat} {l : List Int}, rndN rs n = some l → ∀ k, k < n → ∃ x, rs k = some x ∧ l[k]? = some x
  | 0, l, h => fun k hk => by omega
  | n + 1, l, h => fun k hk => by
    have h' : (match rndN rs n with | none => none | some l => match rs n with | none => none | some x => some (l ++ [x])) = some l := h
    cases e : rndN rs n with
    | none => rw [e] at h'; cases h'
    | some m =>
      rw [e] at h'
      cases e2 : rs n with
      | none => rw [e2] at h'; cases h'
      | some x =>
        rw [e2] at h'
        cases h'
        have lm := rndN_len e
        by_cases c : k < n
        · obtain ⟨y, h1, h2⟩ := rndN_at e k c
          exact ⟨y, h1, by rw [List.getElem?_append_left (by omega)]; exact h2⟩
        · have : k = n := by omega
          subst this
          exact ⟨x, e2, by rw [List.getElem?_append_right (by omega), lm, Nat.sub_self]; rfl⟩
def rsOf (st : List Fr) (rl : List Row) (goal : List Int) (k : Nat) : Option Int := rstep (st.getD k (0, 1)) (ways rl k) (goal.getD k 0)
section
variable {P : Program} {w : World} {K : PySem.W.Frag} {mg : Str → Option Value} {base : Heap} {aW aT : Addr} {es : Array DictEntry} {nn : Nat}
abbrev s_rounded_by_signs : Stmt := topS 33
abbrev n_rounded_by_signs : List Str := ["task", "start", "point", "top", "bottom", "falls", "rises", "times", "down"]
theorem sc_rounded_by_signs : FnScope n_rounded_by_signs ["task", "start"] (defScope s_rounded_by_signs) := ⟨rfl, rfl, rfl, by decide +kernel, rfl, by decide +kernel, by decide +kernel⟩
def spRnd (C : Addr) : Sp := fun vs H Q _ => ∃ (tv sv : V) (ul : List Unk) (wl : List Wish) (goal : List Int) (st : List Fr), vs = [tv, sv] ∧ TaskV C H tv ul wl goal ∧ SV H sv st ∧ wl.length ≤ 100 ∧ ul.length ≤ 100 ∧ (∀ r ∈ sumsOf wl, r.am.length = ul.length) ∧ st.length = ul.length ∧ goal.length = ul.length ∧ (∀ f ∈ st, FrOk f) ∧
  (∀ H' q l, Same H H' → rndN (rsOf st (sumsOf wl) goal) ul.length = some l → H' q = some (tI l) → Q (.ref q) H') ∧ (∀ H', Same H H' → rndN (rsOf st (sumsOf wl) goal) ul.length = none → Q .non H')
theorem ok_rounded {f C : Addr} {fd : FuncData} (F : Fun K "rounded_by_signs" "rounded_by_signs" s_rounded_by_signs f fd) (T : Txt K mg w aW aT es nn) (cc : CC K C) (c_free_ways : Cal P w K mg base 2 "free_ways" (spFree C) []) : FnOk P w K mg base CX0 3 f fd ["task", "start"] (spRnd C) := by
  refine F.ok sc_rounded_by_signs (fun vs H Q E h => ?_) (fun cdv A outer s H vs Q E hr h => ?_)
  · obtain ⟨tv, sv, ul, wl, goal, st, rfl, _⟩ := h
    rfl
  · obtain ⟨tv, sv, ul, wl, goal, st, rfl, tk0, sv0, l100, u100, lam, lst, lg, fo, fin1, fin2⟩ := h
    obtain ⟨x, dx, pu, pw, pg, us, ws, rfl, hx, hpu, uv, hpw, wv, hpg⟩ := id tk0
    obtain ⟨ps, fs, rfl, hps, fv⟩ := id sv0
    have lu := uv.len
    have lf := fv.len
    refine ⟨_, (pss_cons (ps_set (i := 2) sc_rounded_by_signs.nd rfl (.inl rfl) (pe_lst pa_nil))
      (pss_cons (ps_for PassesOwn.never rfl (Z3.pi_zip3 (by rfl) T.b_zip (pa_cons (pv 1) (pa_cons (pe_c c_free_ways hr (by decide) (by rfl) (pa_cons (pv 0) pa_nil)) (pa_cons (pe_fld (pv 0) (by rfl)) pa_nil)))) (pg_tup rfl (pgs_cons (pg_tup rfl (pgs_cons (pg_name (i := 3) sc_rounded_by_signs.nd rfl (.inl rfl)) (pgs_cons (pg_name (i := 4) sc_rounded_by_signs.nd rfl (.inl rfl)) pgs_nil))) (pgs_cons (pg_tup rfl (pgs_cons (pg_name (i := 5) sc_rounded_by_signs.nd rfl (.inl rfl)) (pgs_cons (pg_name (i := 6) sc_rounded_by_signs.nd rfl (.inl rfl)) pgs_nil))) (pgs_cons (pg_name (i := 7) sc_rounded_by_signs.nd rfl (.inl rfl)) pgs_nil)))) (pss_cons (ps_set (i := 8) sc_rounded_by_signs.nd rfl (.inl rfl) (pe_op op_fdiv (pv 3) (pv 4)))
        (pss_one (ps_if (pt_cmpR op_eq (pv 4) pe_int (nomark _)) (pss_one (ps_expr (pe_bm PySem.F.plainAttrs_list PySem.F.slot_list_append PySem.F.type_list_append mt_append (pv 2) (pa_cons (pv 8) pa_nil)))) (pss_one (ps_if (PW.pt (pw_and (pt_not (pt_val (pv 5))) (pw_and1 (pt_not (pt_val (pv 6)))))) (pss_one (ps_ret pe_non)) (pss_one (ps_expr (pe_bm PySem.F.plainAttrs_list PySem.F.slot_list_append PySem.F.type_list_append mt_append (pv 2) (pa_cons (pe_ifExp (PW.pt (pw_and (pt_val (pv 5)) (pw_and1 (PW.pt (pw_or (pt_cmpR op_ge (pv 7) pe_int (nomark _)) (pw_or1 (pt_not (pt_val (pv 6))))))))) (pv 8) (pe_op op_add (pv 8) pe_int)) pa_nil))))))))))
      (pss_one (ps_ret (pe_callTy call_tuple_of (by rfl) T.b_tuple (by decide +kernel) (pa_cons (pv 2) pa_nil)))))), ?_⟩
    refine ⟨nil_ok, fun l nl => ?_⟩
    have k1 := same_upd (o := .lst []) nl
    have el : upd H l (.lst []) l = some (.lst []) := upd_same
    generalize upd H l (.lst []) = H1 at *
    refine ⟨_, rfl, _, rfl, .ref x, ul, wl, goal, rfl, ⟨x, dx, pu, pw, pg, us, ws, rfl, k1 _ _ hx, k1 _ _ hpu, uv.same k1, k1 _ _ hpw, wv.same k1, k1 _ _ hpg⟩, l100, u100, lam, fun H2 q ws2 s2 hq al => ?_⟩
    have k2 := k1.trans s2
    have lal := al.len
    rw [List.length_map, List.length_range] at lal
    refine ⟨_, rfl, x, C, dx, _, _, rfl, k2 _ _ hx, cc.cl, cc.ng, lk_g _ _ _, ps, q, pg, _, _, _, rfl, sq_tup (k2 _ _ hps), sq_tup hq, sq_tup (k2 _ _ hpg), Z3.for_zip3 (K := K) (a := ps) (b := q) (c := pg) (xs := fs) (ys := ws2) (zs := goal.map V.int) (by omega) (by rw [List.length_map]; omega)
      (fun i σ H' => ∃ y3 y4 y5 y6 y7 y8 m, σ = [some (.ref x), some (.ref ps), some (.ref l), y3, y4, y5, y6, y7, y8] ∧ Same H H' ∧ TK H2 H' ∧ H' l = some (tL m) ∧ rndN (rsOf st (sumsOf wl) goal) i = some m)
      ⟨none, none, none, none, none, none, [], rfl, k2, fun _ _ e => e, s2 _ _ el, rfl⟩ (fun i σ H' h => ?_) (fun i v1 v2 v3 T' σ H' h1 h2 h3 h nT => ?_) (fun σ H' h => ?_)⟩
    · obtain ⟨y3, y4, y5, y6, y7, y8, m, rfl, sm, tk, em, hm⟩ := h
      exact ⟨sq_tup (tk _ _ (k2 _ _ hps)), sq_tup (tk _ _ hq), sq_tup (tk _ _ (k2 _ _ hpg))⟩
    · obtain ⟨y3, y4, y5, y6, y7, y8, m, rfl, sm, tk, em, hm⟩ := h
      obtain ⟨fr, hfr, pf, rfl, hpf⟩ := fv.at_ h1
      obtain ⟨wy, hwy, pw2, rfl, hpw2⟩ := al.at_ h2
      obtain ⟨g, hg, rfl⟩ := at_map h3
      have hi : i < ul.length := by have := (List.getElem?_eq_some_iff.mp hg).1; omega
      obtain rfl : wy = ways (sumsOf wl) i := by
        rw [List.getElem?_map, List.getElem?_range hi] at hwy
        exact (Option.some.inj hwy).symm
      have ers : rsOf st (sumsOf wl) goal i = rstep fr (ways (sumsOf wl) i) g := by
        unfold rsOf
        rw [List.getD_eq_getElem?_getD, List.getD_eq_getElem?_getD, hfr, hg]; rfl
      obtain ⟨f0, f1⟩ := fo fr (List.mem_of_getElem? hfr)
      generalize hw : ways (sumsOf wl) i = wy at *
      have sT := same_upd (o := .tup [.ref pf, .ref pw2, .int g]) nT
      have tkT := tk.trans (.of sT)
      have smT := sm.trans sT
      have eT : upd H' T' (.tup [.ref pf, .ref pw2, .int g]) T' = some (.tup [.ref pf, .ref pw2, .int g]) := upd_same
      have em := sT _ _ em
      have lm := rndN_len hm
      generalize upd H' T' (.tup [.ref pf, .ref pw2, .int g]) = H3 at *
      refine ⟨T', _, rfl, sq_tup eT, rfl, _, _, rfl, pf, _, rfl, sq_tup (tkT _ _ (k2 _ _ hpf)), rfl, _, _, rfl, _, _, rfl, rfl, _, _, rfl, pw2, _, rfl, sq_tup (tkT _ _ hpw2), rfl, _, _, rfl, _, _, rfl, rfl, _, _, rfl, rfl, ?_⟩
      refine ⟨_, rfl, _, rfl, _, _, rfl, rfl, ⟨f0, by omega⟩, ?_⟩
      have app : ∀ z : Int, rstep fr wy g = some z → ∀ y5 y6 y7 y8 y3 y4, (fun σ H' => ∃ y3 y4 y5 y6 y7 y8 m, σ = [some (V.ref x), some (.ref ps), some (.ref l), y3, y4, y5, y6, y7, y8] ∧ Same H H' ∧ TK H2 H' ∧ H' l = some (tL m) ∧ rndN (rsOf st (sumsOf wl) goal) (i + 1) = some m) [some (V.ref x), some (.ref ps), some (.ref l), y3, y4, y5, y6, y7, y8] (upd H3 l (.lst (m.map V.int ++ [.int z]))) := fun z hz y5 y6 y7 y8 y3 y4 => by
        refine ⟨y3, y4, y5, y6, y7, y8, m ++ [z], rfl, same_at smT nl, tkT.trans (.put em), ?_, rndN_some hm (ers.trans hz)⟩
        rw [upd_same]
        show some (HO.lst _) = some (HO.lst ((m ++ [z]).map V.int))
        rw [List.map_append]; rfl
      by_cases b1 : fr.2 = 1
      · refine ⟨_, rfl, rfl, _, rfl, ite2 (fun _ => ?_) (fun h => absurd (by simp [b1]) h)⟩
        refine ⟨_, rfl, .inl ⟨rfl, _, sq_lst em⟩, _, rfl, l, _, _, rfl, rfl, em, small1000 (by rw [List.length_map]; omega), ?_⟩
        exact app _ (by unfold rstep; rw [if_pos b1]) _ _ _ _ _ _
      · refine ⟨_, rfl, rfl, _, rfl, ite2 (fun h => absurd (by simpa using h) b1) (fun _ => ?_)⟩
        obtain ⟨fa, ri⟩ := wy
        cases fa with
        | false =>
          cases ri with
          | false =>
            have ez : rstep fr (false, false) g = none := by unfold rstep; rw [if_neg b1, if_pos ⟨rfl, rfl⟩]
            exact ⟨_, rfl, false, rfl, iteT ⟨_, rfl, false, rfl, iteT (fin2 _ smT (rndN_none (rndN_none1 (ers.trans ez)) _ (by omega)))⟩⟩
          | true =>
            have ez : rstep fr (false, true) g = some (fr.1 / fr.2 + 1) := by unfold rstep; rw [if_neg b1, if_neg (by simp), if_neg (by simp)]
            exact ⟨_, rfl, false, rfl, iteT ⟨_, rfl, true, rfl, iteF ⟨_, rfl, .inl ⟨rfl, _, sq_lst em⟩, _, rfl, false, rfl, iteF (iteF ⟨_, rfl, _, _, rfl, rfl, l, _, _, rfl, rfl, em, small1000 (by rw [List.length_map]; omega), app _ ez _ _ _ _ _ _⟩)⟩⟩⟩
        | true =>
          cases ri with
          | false =>
            have ez : rstep fr (true, false) g = some (fr.1 / fr.2) := by unfold rstep; rw [if_neg b1, if_neg (by simp), if_pos (by simp)]
            by_cases g0 : 0 ≤ g
            · exact ⟨_, rfl, true, rfl, iteF (iteF ⟨_, rfl, .inl ⟨rfl, _, sq_lst em⟩, _, rfl, true, rfl, iteT ⟨_, rfl, _, _, rfl, rfl, _, rfl, ite2 (fun _ => iteT ⟨_, rfl, l, _, _, rfl, rfl, em, small1000 (by rw [List.length_map]; omega), app _ ez _ _ _ _ _ _⟩) (fun h => absurd (decide_eq_true g0) h)⟩⟩)⟩
            · exact ⟨_, rfl, true, rfl, iteF (iteF ⟨_, rfl, .inl ⟨rfl, _, sq_lst em⟩, _, rfl, true, rfl, iteT ⟨_, rfl, _, _, rfl, rfl, _, rfl, ite2 (fun h => absurd (of_decide_eq_true h) g0) (fun _ => ⟨_, rfl, false, rfl, iteT ⟨_, rfl, l, _, _, rfl, rfl, em, small1000 (by rw [List.length_map]; omega), app _ ez _ _ _ _ _ _⟩⟩)⟩⟩)⟩
          | true =>
            by_cases g0 : 0 ≤ g
            · have ez : rstep fr (true, true) g = some (fr.1 / fr.2) := by unfold rstep; rw [if_neg b1, if_neg (by simp), if_pos ⟨rfl, .inl g0⟩]
              exact ⟨_, rfl, true, rfl, iteF (iteF ⟨_, rfl, .inl ⟨rfl, _, sq_lst em⟩, _, rfl, true, rfl, iteT ⟨_, rfl, _, _, rfl, rfl, _, rfl, ite2 (fun _ => iteT ⟨_, rfl, l, _, _, rfl, rfl, em, small1000 (by rw [List.length_map]; omega), app _ ez _ _ _ _ _ _⟩) (fun h => absurd (decide_eq_true g0) h)⟩⟩)⟩
            · have ez : rstep fr (true, true) g = some (fr.1 / fr.2 + 1) := by unfold rstep; rw [if_neg b1, if_neg (by simp), if_neg (by simp [g0])]
              exact ⟨_, rfl, true, rfl, iteF (iteF ⟨_, rfl, .inl ⟨rfl, _, sq_lst em⟩, _, rfl, true, rfl, iteT ⟨_, rfl, _, _, rfl, rfl, _, rfl, ite2 (fun h => absurd (of_decide_eq_true h) g0) (fun _ => ⟨_, rfl, true, rfl, iteF ⟨_, rfl, _, _, rfl, rfl, l, _, _, rfl, rfl, em, small1000 (by rw [List.length_map]; omega), app _ ez _ _ _ _ _ _⟩⟩)⟩⟩)⟩
    · obtain ⟨y3, y4, y5, y6, y7, y8, m, rfl, sm, tk, em, hm⟩ := h
      rw [lf, lst] at hm
      refine ⟨_, rfl, l, _, rfl, .inl ⟨sq_lst em, fun q2 nq2 => ?_⟩⟩
      exact fin1 _ q2 m (sm.trans (same_upd nq2)) hm upd_same
end
end M56

namespace M56
open PySem PySem.Spec PyProof.Rows L2 SX Own Gd
open C8 (Cal pe_c pe_gc pe_mk Mak pss_cut)
theorem TK.kp {H H' : Hp} {h q : Addr} (k : Kpt h q H H') (a : HpAt H h q) : TK H H' := fun b xs e => by
  obtain ⟨cs, st, a⟩ := a
  exact k _ _ e (fun z => by rw [z, a.hh] at e; cases e) (fun z => by rw [z, a.hq] at e; cases e)
theorem cut48 (ns : List Int) : cutV (ns.map V.int) none (some 48) = (ns.take 48).map V.int := by
  unfold cutV
  rw [HT.sIx_none, show HT.sIx (ns.map V.int).length (ns.map V.int).length (some 48) = min 48 (ns.map V.int).length from HT.sIx_nat _ _ 48, List.drop_zero, Nat.sub_zero, List.map_take]
  by_cases h : 48 ≤ (ns.map V.int).length
  · rw [Nat.min_eq_left h]
  · rw [Nat.min_eq_right (by omega), List.take_length, List.take_of_length_le (by omega)]
def nearF (f : Fr) : Int := -((f.2 - 2 * f.1) / (2 * f.2))
section
variable {P : Program} {w : World} {K : PySem.W.Frag} {mg : Str → Option Value} {base : Heap} {aW aT : Addr} {es : Array DictEntry} {nn : Nat}
abbrev s_nearest_point : Stmt := topS 34
abbrev n_nearest_point : List Str := ["start", "top", "bottom"]
theorem sc_nearest_point : FnScope n_nearest_point ["start"] (defScope s_nearest_point) := ⟨rfl, rfl, rfl, by decide +kernel, rfl, by decide +kernel, by decide +kernel⟩
def spNear : Sp := fun vs H Q _ => ∃ (sv : V) (st : List Fr), vs = [sv] ∧ SV H sv st ∧ st.length ≤ 100 ∧ (∀ f ∈ st, FrOk f) ∧ ∀ H' q, Same H H' → H' q = some (tI (st.map nearF)) → Q (.ref q) H'
theorem ok_nearest {f : Addr} {fd : FuncData} (F : Fun K "nearest_point" "nearest_point" s_nearest_point f fd) (T : Txt K mg w aW aT es nn) : FnOk P w K mg base CX0 1 f fd ["start"] spNear := by
  refine F.ok sc_nearest_point (fun vs H Q E h => ?_) (fun cdv A outer s H vs Q E hr h => ?_)
  · obtain ⟨sv, st, rfl, _⟩ := h
    rfl
  · obtain ⟨sv, st, rfl, ⟨ps, fs, rfl, hps, fv⟩, l100, fo, fin⟩ := h
    have lf := fv.len
    refine ⟨_, (pss_one (ps_ret (pe_callTy call_tuple_of (by rfl) T.b_tuple (by decide +kernel) (pa_cons (pe_lc (own := [("top", 1), ("bottom", 2)]) (g := gTup K 2 (gCons (gName 1) (gCons (gName 2) gNil))) rfl sc_nearest_point.nd (pi_tup (pv 0)) (blkOk_by (N := n_nearest_point) (sc := defScope s_nearest_point) (by decide +kernel)) (fun _ _ _ _ _ => (pg_tup rfl (pgs_cons (pg_name (i := 1) sc_nearest_point.nd rfl (.inl rfl)) (pgs_cons (pg_name (i := 2) sc_nearest_point.nd rfl (.inl rfl)) pgs_nil)))) (fun _ _ _ _ _ => pts_nil) (fun _ _ _ _ _ => (pe_un un_neg (pe_op op_fdiv (pe_op op_sub (pv 2) (pe_op op_mul pe_int (pv 1))) (pe_op op_mul pe_int (pv 2)))))) pa_nil)))), ?_⟩
    refine ⟨_, rfl, ps, rfl, ⟨_, sq_tup hps⟩, fun D nD => ?_⟩
    refine lc_tup (K := K) (a := ps) (xs := fs) (fun i H' => H' D = some (.lst (((st.take i).map nearF).map V.int)) ∧ Same H H') ⟨upd_same, same_upd nD⟩ (fun i H' _ h => sq_tup (h.2 _ _ hps)) ?_ ?_
    · rintro i v H2 hv ⟨hD, sm⟩
      obtain ⟨fr, hfr, pf, rfl, hpf⟩ := fv.at_ hv
      obtain ⟨f0, f1⟩ := fo fr (List.mem_of_getElem? hfr)
      have li : i < st.length := (List.getElem?_eq_some_iff.mp hfr).1
      refine ⟨pf, _, rfl, sq_tup (sm _ _ hpf), rfl, _, _, rfl, _, _, rfl, rfl, rfl, ?_⟩
      refine ⟨_, rfl, _, rfl, _, _, rfl, rfl, .inl ⟨by decide, by decide⟩, _, _, rfl, rfl, _, rfl, _, _, rfl, rfl, .inl ⟨by decide, by decide⟩, _, _, rfl, rfl, ⟨by omega, by omega⟩, _, rfl, _, hD, small1000 (by rw [List.length_map, List.length_map, List.length_take]; omega), ?_, same_at sm nD⟩
      rw [upd_same, take_one hfr, List.map_append, List.map_append]; rfl
    · rintro H2 ⟨hD, sm⟩
      rw [lf, List.take_length] at hD
      refine ⟨D, _, rfl, .inl ⟨sq_lst hD, fun q nq => ?_⟩⟩
      exact fin _ q (sm.trans (same_upd nq)) upd_same
abbrev s_Lany : Stmt := topS 37
abbrev n_Lany : List Str := ["deal", "bound", "rest"]
theorem sc_Lany : FnScope n_Lany ["deal", "bound"] (defScope s_Lany) := ⟨rfl, rfl, rfl, by decide +kernel, rfl, by decide +kernel, by decide +kernel⟩
def spDraw : Sp := fun vs H Q _ => ∃ (h q : Addr) (n : Int), vs = [.ref h, .int n] ∧ HpAt H h q ∧ 0 < n ∧ n < 1073741824 ∧ ∀ d H', 0 ≤ d → d < n → HpAt H' h q → Kpt h q H H' → Q (.int d) H'
theorem ok_draw {f : Addr} {fd : FuncData} (F : Fun K "_law_any" "_law_any" s_Lany f fd) (T : Txt K mg w aW aT es nn) : FnOk P w K mg base CX0 1 f fd ["deal", "bound"] spDraw := by
  refine F.ok sc_Lany (fun vs H Q E h => ?_) (fun cdv A outer s H vs Q E hr h => ?_)
  · obtain ⟨h, q, n, rfl, _⟩ := h
    rfl
  · obtain ⟨h, q, n, rfl, ⟨cs0, st0, a0⟩, hn, hn2, k⟩ := h
    refine ⟨_, (pss_cut (ps_while PassesOwn.never (PW.pt (pw_and (pt_cmpR (op_neD hr.units) (pe_ix ix_list (pv 0) pe_int (fun _ _ => rfl)) (pe_lst pa_nil) (nomark _)) (pw_and1 (pt_cmpR op_eq (pe_ix ix_list (pe_ix ix_list (pv 0) pe_int (fun _ _ => rfl)) (pe_un un_neg pe_int) (fun _ _ => rfl)) pe_int (nomark _))))) (pss_one (ps_expr (pe_bm0 PySem.F.plainAttrs_list PySem.F.slot_list_pop PySem.F.type_list_pop mt_pop (pe_ix ix_list (pv 0) pe_int (fun _ _ => rfl))))))
      (pss_cons (ps_if (pt_cmpR (op_neD hr.units) (pe_ix ix_list (pv 0) pe_int (fun _ _ => rfl)) (pe_lst pa_nil) (nomark _)) (pss_cons (ps_set (i := 2) sc_Lany.nd rfl (.inl rfl) (pe_callTy call_int1 (by rfl) T.b_int (by decide +kernel) (pa_cons (pe_bm0 PySem.F.plainAttrs_list PySem.F.slot_list_pop PySem.F.type_list_pop mt_pop (pe_ix ix_list (pv 0) pe_int (fun _ _ => rfl))) pa_nil)))
        (pss_cons (ps_expr (pe_bm PySem.F.plainAttrs_list PySem.F.slot_list_append PySem.F.type_list_append mt_append (pe_ix ix_list (pv 0) pe_int (fun _ _ => rfl)) (pa_cons (pe_op op_fdiv (pv 2) (pv 1)) pa_nil)))
        (pss_one (ps_ret (pe_op op_mod (pv 2) (pv 1)))))) pss_nil)
      (pss_cons (ps_asg (pe_op op_mod (pe_callTy call_int1 (by rfl) T.b_int (by decide +kernel) (pa_cons (pe_op op_add (pe_op op_mul (pe_ix ix_list (pv 0) pe_int (fun _ _ => rfl)) pe_int) pe_int) pa_nil)) pe_int) (pg_sub (pv 0) pe_int set_list))
      (pss_one (ps_ret (pe_op op_mod (pe_callTy call_int1 (by rfl) T.b_int (by decide +kernel) (pa_cons (pe_op op_fdiv (pe_ix ix_list (pv 0) pe_int (fun _ _ => rfl)) pe_int) pa_nil)) (pv 1))))))), ?_⟩
    refine ⟨fun σ H' => ∃ cs st y, σ = [some (.ref h), some (.int n), y] ∧ HpL H' h q cs st ∧ Kpt h q H H', ?_, fun σ H1 hM => ?_⟩
    · refine ⟨fun m σ H' => ∃ cs st y, σ = [some (.ref h), some (.int n), y] ∧ HpL H' h q cs st ∧ Kpt h q H H' ∧ m = cs.length, ⟨_, cs0, st0, none, rfl, a0, Kpt.refl _ _ _, rfl⟩, fun m σ H1 hW => ?_⟩
      obtain ⟨cs, st, y, rfl, a, kp, rfl⟩ := hW
      refine ⟨_, rfl, h, _, 0, .ref q, rfl, rfl, sq_lst a.hh, rfl, Nat.zero_le _, fun p np => ?_⟩
      have sm : Same H1 (upd H1 p (.lst [])) := same_upd np
      have a2 := a.same sm
      refine ⟨_, _, .lst (sq_lst a2.hq) (dp_ints cs), .lst (sq_lst upd_same) .nil, shp_ints cs, shp_ints [], _, rfl, ?_⟩
      rcases List.eq_nil_or_concat cs with rfl | ⟨ds, c, rfl⟩
      · refine iteF ?_
        exact ⟨[], st, y, rfl, a2, kp.trans (.of_same sm)⟩
      · have e : PyData.eqv (.list ((ds.concat c).map PyData.int)) (.list []) = false := by
          rw [List.concat_eq_append, List.map_append, PyData.eqv]
          cases ds with
          | nil => rfl
          | cons d r => rfl
        rw [e]
        refine iteT ?_
        have el : (ds.concat c).map V.int = ds.map V.int ++ [.int c] := by rw [List.concat_eq_append, List.map_append]; rfl
        refine ⟨_, rfl, h, _, 0, .ref q, rfl, rfl, sq_lst a2.hh, rfl, _, rfl, q, _, -1, .int c, rfl, rfl, sq_lst a2.hq, (by rw [el]; exact atI_last _ _), rfl, _, rfl, ite2 (fun hz => ?_) (fun hz => ?_)⟩
        · refine ⟨fun σ' H' => ∃ m', m' < (ds.concat c).length ∧ _, fun _ _ z => z, ?_⟩
          refine ⟨_, rfl, h, _, 0, .ref q, rfl, rfl, sq_lst a2.hh, rfl, .inl ⟨rfl, _, sq_lst a2.hq⟩, q, _, .int c, rfl, rfl, a2.hq, ?_, ds.length, ?_, ds, st, y, rfl, ?_, ?_, rfl⟩
          · rw [el, List.length_append, List.length_singleton, Nat.add_sub_cancel, List.getElem?_append_right (Nat.le_refl _), Nat.sub_self]; rfl
          · rw [List.length_concat]; omega
          · rw [el, List.dropLast_concat]
            refine a2.put ds (fun x hx => a.nn x (by rw [List.concat_eq_append]; exact List.mem_append_left _ hx)) ?_
            have := a.ln; rw [List.length_concat] at this; omega
          · exact (kp.trans (.of_same sm)).trans .at_q
        · exact ⟨ds.concat c, st, y, rfl, a2, kp.trans (.of_same sm)⟩
    · obtain ⟨cs, st, y, rfl, a, kp⟩ := hM
      refine ⟨_, rfl, h, _, 0, .ref q, rfl, rfl, sq_lst a.hh, rfl, Nat.zero_le _, fun p np => ?_⟩
      have sm : Same H1 (upd H1 p (.lst [])) := same_upd np
      have a2 := a.same sm
      refine ⟨_, _, .lst (sq_lst a2.hq) (dp_ints cs), .lst (sq_lst upd_same) .nil, shp_ints cs, shp_ints [], _, rfl, ?_⟩
      have kp2 := kp.trans (.of_same (h := h) (q := q) sm)
      rcases List.eq_nil_or_concat cs with rfl | ⟨ds, c, rfl⟩
      · refine iteF ?_
        have b1 : (0 : Int) ≤ (st * 40693 + 71) % 2147483647 := Int.emod_nonneg _ (by decide)
        have b2 : (st * 40693 + 71) % 2147483647 < 2147483647 := Int.emod_lt_of_pos _ (by decide)
        refine ⟨_, rfl, h, _, 1, .int st, rfl, rfl, sq_lst a2.hh, rfl, _, _, rfl, rfl, .inr ⟨by decide, by decide⟩, _, _, rfl, rfl, .inl ⟨_, rfl, _, _, rfl, rfl, (by show (0 : Int) < 2147483647; decide), _, rfl, h, _, 1, 1, rfl, rfl, a2.hh, rfl, ?_⟩⟩
        have a3 : HpL (upd (upd H1 p (.lst [])) h (.lst [.ref q, .int ((st * 40693 + 71) % 2147483647)])) h q [] ((st * 40693 + 71) % 2147483647) :=
          ⟨a.ne, upd_same, by rw [upd_ne a.ne.symm]; exact a2.hq, a.nn, a.ln, b1, b2⟩
        refine ⟨_, rfl, h, _, 1, _, rfl, rfl, sq_lst a3.hh, rfl, _, _, rfl, rfl, ⟨by decide, by decide⟩, .inl ⟨_, rfl, _, rfl, _, _, rfl, rfl, hn, ?_⟩⟩
        exact k _ _ (Int.emod_nonneg _ (by omega)) (Int.emod_lt_of_pos _ hn) ⟨_, _, a3⟩ (kp2.trans .at_h)
      · have e : PyData.eqv (.list ((ds.concat c).map PyData.int)) (.list []) = false := by
          rw [List.concat_eq_append, List.map_append, PyData.eqv]
          cases ds with
          | nil => rfl
          | cons d r => rfl
        rw [e]
        refine iteT ?_
        have el : (ds.concat c).map V.int = ds.map V.int ++ [.int c] := by rw [List.concat_eq_append, List.map_append]; rfl
        have c0 : 0 ≤ c := a.nn c (by rw [List.concat_eq_append]; simp)
        have dl : ds.length + 1 ≤ 60 := by have := a.ln; rwa [List.length_concat] at this
        refine ⟨_, rfl, h, _, 0, .ref q, rfl, rfl, sq_lst a2.hh, rfl, .inl ⟨rfl, _, sq_lst a2.hq⟩, q, _, .int c, rfl, rfl, a2.hq, ?_, .inl ⟨_, rfl, ?_⟩⟩
        · rw [el, List.length_append, List.length_singleton, Nat.add_sub_cancel, List.getElem?_append_right (Nat.le_refl _), Nat.sub_self]; rfl
        · rw [el, List.dropLast_concat]
          have a3 := a2.put ds (fun x hx => a.nn x (by rw [List.concat_eq_append]; exact List.mem_append_left _ hx)) (by omega)
          refine ⟨_, rfl, h, _, 0, .ref q, rfl, rfl, sq_lst a3.hh, rfl, .inl ⟨rfl, _, sq_lst a3.hq⟩, _, rfl, _, rfl, _, _, rfl, rfl, ⟨hn, hn2⟩, q, _, _, rfl, rfl, a3.hq, ?_, ?_⟩
          · rw [List.length_map]; exact small1000 (by omega)
          · have a4 := a3.put (ds ++ [c / n]) (fun x hx => by
              rcases List.mem_append.mp hx with z | z
              · exact a3.nn x z
              · rw [List.mem_singleton.mp z]; exact Int.ediv_nonneg c0 (by omega)) (by rw [List.length_append]; exact dl)
            rw [List.map_append] at a4
            refine ⟨_, rfl, _, rfl, _, _, rfl, rfl, hn, ?_⟩
            exact k _ _ (Int.emod_nonneg _ (by omega)) (Int.emod_lt_of_pos _ hn) ⟨_, _, a4⟩ ((kp2.trans .at_q).trans .at_q)
abbrev s_Ldraw : Stmt := topS 36
abbrev n_Ldraw : List Str := ["script", "salt", "cell", "cells", "blend"]
theorem sc_Ldraw : FnScope n_Ldraw ["script", "salt"] (defScope s_Ldraw) := ⟨rfl, rfl, rfl, by decide +kernel, rfl, by decide +kernel, by decide +kernel⟩
def spHeap (K : PySem.W.Frag) : Sp := fun vs H Q _ => ∃ (a : Addr) (ns : List Int), vs = [.ref a, .int 56] ∧ SqL K H a (ns.map V.int) ∧ ns.length ≤ 63 ∧ ∀ H' h q, Same H H' → H h = none → H q = none → HpAt H' h q → Q (.ref h) H'
theorem ok_heap {f : Addr} {fd : FuncData} (F : Fun K "_law_draw" "_law_draw" s_Ldraw f fd) (T : Txt K mg w aW aT es nn) : FnOk P w K mg base CX0 1 f fd ["script", "salt"] (spHeap K) := by
  refine F.ok sc_Ldraw (fun vs H Q E h => ?_) (fun cdv A outer s H vs Q E hr h => ?_)
  · obtain ⟨a, ns, rfl, _⟩ := h
    rfl
  · obtain ⟨a, ns, rfl, hS, hlen, k⟩ := h
    refine ⟨_, (pss_cons (ps_setLc (i := 3) (own := [("cell", 2)]) rfl sc_Ldraw.nd rfl rfl (sw_true rfl rfl rfl (by decide +kernel)) (pi_list (pe_slice sl_list (pv 0) po_none (po_some pe_int))) (blkOk_by (N := n_Ldraw) (sc := defScope s_Ldraw) (by decide +kernel)) (fun _ _ _ _ _ => (pg_name (i := 2) sc_Ldraw.nd rfl (.inl rfl))) (fun _ _ _ _ _ => pts_nil) (fun _ _ _ _ _ => (pe_callB call_abs (by rfl) T.b_abs (by decide +kernel) (pa_cons (pe_callTy call_int1 (by rfl) T.b_int (by decide +kernel) (pa_cons (pv 2) pa_nil)) pa_nil))))
      (pss_cons (ps_set (i := 4) sc_Ldraw.nd rfl (.inl rfl) (pe_op op_add pe_int (pe_op op_mul pe_int (pv 1))))
      (pss_cons (ps_for PassesOwn.never rfl (pi_list (pv 3)) (pg_name (i := 2) sc_Ldraw.nd rfl (.inl rfl)) (pss_one (ps_set (i := 4) sc_Ldraw.nd rfl (.inl rfl) (pe_op op_mod (pe_callTy call_int1 (by rfl) T.b_int (by decide +kernel) (pa_cons (pe_op op_add (pe_op op_add (pe_op op_mul (pv 4) pe_int) (pe_op op_mod (pv 2) pe_int)) pe_int) pa_nil)) pe_int))))
      (pss_one (ps_ret (pe_lst (pa_cons (pe_revL (pe_lc (own := [("cell", 2)]) rfl sc_Ldraw.nd (pi_list (pv 3)) (blkOk_by (N := n_Ldraw) (sc := defScope s_Ldraw) (by decide +kernel)) (fun _ _ _ _ _ => (pg_name (i := 2) sc_Ldraw.nd rfl (.inl rfl))) (fun _ _ _ _ _ => (pts_one (pt_cmpR op_ge (pv 2) (pe_op op_pow pe_int pe_int) (nomark _)))) (fun _ _ _ _ _ => (pv 2)))) (pa_cons (pv 4) pa_nil)))))))), ?_⟩
    refine ⟨_, rfl, _, rfl, a, _, rfl, hS, fun p np => ?_⟩
    rw [cut48]
    have s1 : Same H (upd H p (.lst ((ns.take 48).map V.int))) := same_upd np
    refine ⟨p, rfl, ⟨_, sq_lst upd_same⟩, fun D nD => ?_⟩
    have nDH : H D = none := s1.free nD
    have hDp : p ≠ D := ne_of_none upd_same nD
    refine lc_list (K := K) (a := p) (xs := (ns.take 48).map V.int) (fun i H' => ∃ cs : List Int, H' D = some (.lst (cs.map V.int)) ∧ (∀ c ∈ cs, 0 ≤ c) ∧ cs.length = i ∧ H' p = some (.lst ((ns.take 48).map V.int)) ∧ Same H H')
      ⟨[], upd_same, by simp, rfl, by rw [upd_ne hDp]; exact upd_same, same_at s1 nDH⟩ (fun i H' _ ⟨_, _, _, _, e, _⟩ => sq_lst e) ?_ ?_
    · rintro i x H' hi ⟨cs, hD, c0, cl, hp, sm⟩
      obtain ⟨z, hz, rfl⟩ := get_int hi
      have hil : i < (ns.take 48).length := (List.getElem?_eq_some_iff.mp hz).1
      rw [List.length_take] at hil
      refine ⟨rfl, _, rfl, .inl ⟨_, rfl, _, rfl, cs.map V.int, hD, (by rw [List.length_map]; exact small1000 (by omega)), cs ++ [if z < 0 then -z else z], ?_, ?_, ?_, ?_, same_at sm nDH⟩⟩
      · rw [upd_same, List.map_append]; rfl
      · intro c hc
        rcases List.mem_append.mp hc with h | h
        · exact c0 c h
        · rw [List.mem_singleton.mp h]; split <;> omega
      · rw [List.length_append, cl]; rfl
      · rw [upd_ne hDp]; exact hp
    · rintro H2 ⟨cs, hD, c0, cl, hp, sm⟩
      have cl60 : cs.length ≤ 60 := by rw [cl, List.length_map, List.length_take]; omega
      -- the loop over the cells
      refine ⟨_, rfl, _, _, rfl, rfl, .inl ⟨by decide, by decide⟩, _, _, rfl, rfl, _, rfl, D, rfl, ⟨_, sq_lst hD⟩, for_list (K := K) (a := D) (xs := cs.map V.int) (fun i σ H' => ∃ (y : Option V) (st : Int), σ = [some (.ref a), some (.int 56), y, some (.ref D), some (.int st)] ∧ 0 ≤ st ∧ st < 2147483647 ∧ H' = H2)
        ⟨none, 7919 + 104729 * 56, rfl, by decide, by decide, rfl⟩ (fun i σ H' _ ⟨_, _, _, _, _, e⟩ => by rw [e]; exact sq_lst hD) ?_ ?_⟩
      · rintro i x σ H' hi ⟨y, st, rfl, h0, h1, rfl⟩
        obtain ⟨z, hz, rfl⟩ := get_int hi
        refine ⟨_, rfl, _, _, rfl, rfl, .inl ⟨by omega, by omega⟩, _, rfl, _, _, rfl, rfl, (by show (0 : Int) < 2147483549; decide), _, _, rfl, rfl, _, _, rfl, rfl, .inl ⟨_, rfl, _, _, rfl, rfl, (by show (0 : Int) < 2147483647; decide), ?_⟩⟩
        exact ⟨_, _, rfl, Int.emod_nonneg _ (by decide), Int.emod_lt_of_pos _ (by decide), rfl⟩
      · rintro σ H' ⟨y, st, rfl, h0, h1, rfl⟩
        refine ⟨_, rfl, D, rfl, ⟨_, sq_lst hD⟩, fun D2 nD2 => ?_⟩
        have nD2H : H D2 = none := sm.free nD2
        have hDD : D ≠ D2 := ne_of_none hD nD2
        refine lc_list (K := K) (a := D) (xs := cs.map V.int) (fun i H3 => ∃ ds : List Int, H3 D2 = some (.lst (ds.map V.int)) ∧ (∀ c ∈ ds, 0 ≤ c) ∧ ds.length ≤ i ∧ H3 D = some (.lst (cs.map V.int)) ∧ Same H H3)
          ⟨[], upd_same, by simp, Nat.le_refl _, by rw [upd_ne hDD]; exact hD, same_at sm nD2H⟩ (fun i H' _ ⟨_, _, _, _, e, _⟩ => sq_lst e) ?_ ?_
        · rintro i x H3 hi ⟨ds, hd, d0, dl, hc, sm3⟩
          obtain ⟨z, hz, rfl⟩ := get_int hi
          have hil : i < cs.length := (List.getElem?_eq_some_iff.mp hz).1
          have hz0 : 0 ≤ z := c0 z (List.mem_of_getElem? hz)
          refine ⟨rfl, _, rfl, _, _, rfl, rfl, ⟨by decide, by decide, by decide⟩, _, _, rfl, rfl, _, rfl, ite2 (fun _ => ?_) (fun _ => ?_)⟩
          · refine ⟨_, rfl, ds.map V.int, hd, (by rw [List.length_map]; exact small1000 (by omega)), ds ++ [z], ?_, ?_, ?_, ?_, same_at sm3 nD2H⟩
            · rw [upd_same, List.map_append]; rfl
            · intro c hc
              rcases List.mem_append.mp hc with h | h
              · exact d0 c h
              · rw [List.mem_singleton.mp h]; exact hz0
            · rw [List.length_append]; exact Nat.succ_le_succ dl
            · rw [upd_ne hDD]; exact hc
          · exact ⟨ds, hd, d0, by omega, hc, sm3⟩
        · rintro H3 ⟨ds, hd, d0, dl, hc, sm3⟩
          have dl60 : ds.length ≤ 60 := by rw [List.length_map] at dl; omega
          refine ⟨D2, _, rfl, sq_lst hd, fun q nq => ?_⟩
          refine ⟨_, rfl, (by show 2 ≤ sizeLine; decide), fun g ng => ?_⟩
          have s4 := same_at (o := .lst (ds.map V.int).reverse) sm3 (sm3.free nq)
          have s5 := same_at (o := .lst [.ref q, .int st]) s4 (s4.free ng)
          have hgq : g ≠ q := (ne_of_none upd_same ng).symm
          refine k _ g q s5 (s4.free ng) (sm3.free nq) ⟨ds.reverse, st, hgq, upd_same, ?_, ?_, ?_, h0, h1⟩
          · rw [upd_ne hgq.symm, upd_same, List.map_reverse]
          · intro c hc; exact d0 c (List.mem_reverse.mp hc)
          · rw [List.length_reverse]; exact dl60
abbrev s_Lof : Stmt := topS 38
abbrev n_Lof : List Str := ["deal", "some"]
theorem sc_Lof : FnScope n_Lof ["deal", "some"] (defScope s_Lof) := ⟨rfl, rfl, rfl, by decide +kernel, rfl, by decide +kernel, by decide +kernel⟩
def spPickL : Sp := fun vs H Q _ => ∃ (h q p : Addr) (xs : List V), vs = [.ref h, .ref p] ∧ HpAt H h q ∧ H p = some (.lst xs) ∧ p ≠ h ∧ p ≠ q ∧ xs ≠ [] ∧ xs.length ≤ 1000 ∧ ∀ v H', v ∈ xs → HpAt H' h q → Kpt h q H H' → Q v H'
theorem ok_pickL {f : Addr} {fd : FuncData} (F : Fun K "_law_of" "_law_of" s_Lof f fd) (T : Txt K mg w aW aT es nn) (c_Lany : Cal P w K mg base 1 "_law_any" spDraw []) : FnOk P w K mg base CX0 2 f fd ["deal", "some"] spPickL := by
  refine F.ok sc_Lof (fun vs H Q E h => ?_) (fun cdv A outer s H vs Q E hr h => ?_)
  · obtain ⟨h, q, p, xs, rfl, _⟩ := h
    rfl
  · obtain ⟨h, q, p, xs, rfl, a, hp, p1, p2, hl, hn, k⟩ := h
    refine ⟨_, (pss_one (ps_ret (pe_ix ix_list (pv 1) (pe_c c_Lany hr (by decide) (by rfl) (pa_cons (pv 0) (pa_cons (pe_callB call_len_seq (by rfl) T.b_len (by decide +kernel) (pa_cons (pv 1) pa_nil)) pa_nil))) (fun _ _ => rfl)))), ?_⟩
    have h1 : 0 < xs.length := List.length_pos_iff.mpr hl
    refine ⟨_, rfl, _, rfl, _, rfl, p, xs, rfl, .inl (sq_lst hp), h, q, (xs.length : Int), rfl, a, by omega, by omega, fun d H' d0 d1 a' kp => ?_⟩
    obtain ⟨j, rfl⟩ : ∃ j : Nat, d = (j : Int) := ⟨d.toNat, by omega⟩
    have hj : j < xs.length := by omega
    exact ⟨p, xs, (j : Int), xs[j], rfl, rfl, sq_lst (kp _ _ hp p1 p2), atI_nat (List.getElem?_eq_getElem hj), k _ _ (List.getElem_mem hj) a' kp⟩
end
end M56

namespace M56
open PySem PySem.Spec PyProof.Rows L2 SX Own Gd
open C8 (Cal pe_c pe_gc pe_mk Mak pss_cut)
/-! ### an item of a list or a tuple -/
def rIxA (K : PySem.W.Frag) : R2 := fun x y H Q => ∃ p xs i v, x = .ref p ∧ y = .int i ∧ (SqL K H p xs ∨ SqT K H p xs) ∧ atI xs i = some v ∧ Q v H
theorem ix_any {X : Cx} : IxR X (rIxA X.K) := by
  intro value slice pins s σ H x y v u Q I rx ry h hs
  obtain ⟨p, xs, i, z, rfl, rfl, hq, he, q⟩ := h
  rcases hq with hq | hq
  · exact ix_list value slice pins s σ H _ _ v u Q I rx ry ⟨p, xs, i, z, rfl, rfl, hq, he, q⟩ hs
  · exact ix_tup value slice pins s σ H _ _ v u Q I rx ry ⟨p, xs, i, z, rfl, rfl, hq, he, q⟩ hs
/-- integers in a list or a tuple -/
def AV (H : Hp) (v : V) (a : List Int) : Prop := ∃ p, v = .ref p ∧ (H p = some (tL a) ∨ H p = some (tI a))
theorem AV.seq {K : PySem.W.Frag} {H : Hp} {p : Addr} {a : List Int} (h : H p = some (tL a) ∨ H p = some (tI a)) : SqL K H p (a.map V.int) ∨ SqT K H p (a.map V.int) := h.elim (fun e => .inl (sq_lst e)) fun e => .inr (sq_tup e)
theorem AV.same {H H' : Hp} {v : V} {a : List Int} (h : AV H v a) (s : Same H H') : AV H' v a := by
  obtain ⟨p, e, g⟩ := h
  exact ⟨p, e, g.elim (fun e => .inl (s _ _ e)) fun e => .inr (s _ _ e)⟩
def SA (H : Hp) (v : V) (st : List Fr) : Prop := ∃ p us, v = .ref p ∧ (H p = some (.lst us) ∨ H p = some (.tup us)) ∧ All2 (FV H) us st
theorem SA.same {H H' : Hp} {v : V} {st : List Fr} (h : SA H v st) (s : Same H H') : SA H' v st := by
  obtain ⟨p, us, e, g, a⟩ := h
  exact ⟨p, us, e, g.elim (fun e => .inl (s _ _ e)) fun e => .inr (s _ _ e), a.mono fun v x k => k.tk (.of s)⟩
theorem SV.sa {H : Hp} {v : V} {st : List Fr} (h : SV H v st) : SA H v st := by
  obtain ⟨p, us, e, g, a⟩ := h
  exact ⟨p, us, e, .inr g, a⟩
theorem seqA {K : PySem.W.Frag} {H : Hp} {p : Addr} {us : List V} (h : H p = some (.lst us) ∨ H p = some (.tup us)) : SqL K H p us ∨ SqT K H p us := h.elim (fun e => .inl (sq_lst e)) fun e => .inr (sq_tup e)
/-- a fraction in lowest terms whose bottom divides 12 -/
structure F12 (f : Fr) : Prop where
  pos : 0 < f.2
  dv : f.2 ∣ 12
  low : f.2 ∣ f.1 → f.2 = 1
  bd : f.1.natAbs ≤ 1000
theorem F12.le {f : Fr} (h : F12 f) : f.2 ≤ 12 := Int.le_of_dvd (by decide) h.dv
theorem F12.ok {f : Fr} (h : F12 f) : FrOk f := ⟨h.pos, by have := h.le; omega⟩
def totT (am : List Int) (st : List Fr) (k : Nat) : Int := am.getD k 0 * (st.getD k (0, 1)).1 * (12 / (st.getD k (0, 1)).2)
def tot (am : List Int) (st : List Fr) : Int := ((List.range st.length).map (totT am st)).sum
def lowF (t b : Int) : Fr := (t / (Int.gcd t b : Nat), b / (Int.gcd t b : Nat))
theorem lowF_12 {t b : Int} (h : 0 < b) (d : b ∣ 12) (ht : t.natAbs ≤ 1000) : F12 (lowF t b) := by
  have g0 : 0 < (Int.gcd t b : Nat) := Nat.pos_of_ne_zero fun z => by
    have := Int.gcd_eq_zero_iff.mp z
    omega
  have gb : ((Int.gcd t b : Nat) : Int) ∣ b := Int.gcd_dvd_right ..
  have gt : ((Int.gcd t b : Nat) : Int) ∣ t := Int.gcd_dvd_left ..
  obtain ⟨x, ex⟩ := gb
  obtain ⟨y, ey⟩ := gt
  generalize hg : Int.gcd t b = g at *
  have g0' : (g : Int) ≠ 0 := by omega
  have e2 : (lowF t b).2 = x := by
    show b / (Int.gcd t b : Nat) = x
    rw [hg, ex]; exact Int.mul_ediv_cancel_left _ g0'
  have e1 : (lowF t b).1 = y := by
    show t / (Int.gcd t b : Nat) = y
    rw [hg]
    rw [ey]; exact Int.mul_ediv_cancel_left _ g0'
  have x0 : 0 < x := by
    rcases Int.lt_or_le 0 x with h1 | h1
    · exact h1
    · have := Int.mul_nonpos_of_nonneg_of_nonpos (show (0 : Int) ≤ g by omega) h1
      omega
  refine ⟨by rw [e2]; exact x0, ?_, fun hd => ?_, ?_⟩
  rotate_left 2
  · rw [e1]
    have : y.natAbs ≤ t.natAbs := by
      rw [ey, Int.natAbs_mul, Int.natAbs_natCast]
      exact Nat.le_mul_of_pos_left _ g0
    omega
  · rw [e2]
    exact Int.dvd_trans ⟨g, by rw [ex]; exact Int.mul_comm ..⟩ d
  · rw [e2, e1] at hd
    rw [e2]
    obtain ⟨z, ez⟩ := hd
    have : b ∣ t := ⟨z, by rw [ey, ez, ex, Int.mul_assoc]⟩
    have h2 : Int.gcd t b = b.natAbs := Nat.gcd_eq_right (Int.natAbs_dvd_natAbs.mpr this)
    have h3 : (g : Int) = b := by omega
    rw [h3] at ex
    have : b * x = b * 1 := by omega
    exact Int.eq_of_mul_eq_mul_left (by omega) this
section
variable {P : Program} {w : World} {K : PySem.W.Frag} {mg : Str → Option Value} {base : Heap} {aW aT : Addr} {es : Array DictEntry} {nn : Nat}
abbrev s_Llow : Stmt := topS 39
abbrev n_Llow : List Str := ["top", "bottom", "one", "other"]
theorem sc_Llow : FnScope n_Llow ["top", "bottom"] (defScope s_Llow) := ⟨rfl, rfl, rfl, by decide +kernel, rfl, by decide +kernel, by decide +kernel⟩
def spLow : Sp := fun vs H Q _ => ∃ (t b : Int), vs = [.int t, .int b] ∧ 0 < b ∧ b ≤ 1000000 ∧ ∀ H' p, Same H H' → H' p = some (.tup [.int (lowF t b).1, .int (lowF t b).2]) → Q (.ref p) H'
theorem ok_low {f : Addr} {fd : FuncData} (F : Fun K "_law_low" "_law_low" s_Llow f fd) (T : Txt K mg w aW aT es nn) : FnOk P w K mg base CX0 1 f fd ["top", "bottom"] spLow := by
  refine F.ok sc_Llow (fun vs H Q E h => ?_) (fun cdv A outer s H vs Q E hr h => ?_)
  · obtain ⟨t, b, rfl, _⟩ := h
    rfl
  · obtain ⟨t, b, rfl, b0, b1, fin⟩ := h
    have g0 : 0 < (Int.gcd t b : Nat) := Nat.pos_of_ne_zero fun z => by
      have := Int.gcd_eq_zero_iff.mp z
      omega
    have gle : (Int.gcd t b : Nat) ≤ b := Int.le_of_dvd b0 (Int.gcd_dvd_right ..)
    refine ⟨_, (pss_cons (ps_par (i := 2) (j := 3) (by rfl) sc_Llow.nd rfl rfl (by decide) rfl rfl (pa_cons (pe_callB call_abs (by rfl) T.b_abs (by decide +kernel) (pa_cons (pv 0) pa_nil)) (pa_cons (pv 1) pa_nil)) (by rfl))
      (pss_cons (ps_while PassesOwn.never (pt_cmpR op_gt (pv 3) pe_int (nomark _)) (pss_one (ps_par (i := 2) (j := 3) (by rfl) sc_Llow.nd rfl rfl (by decide) rfl rfl (pa_cons (pv 3) (pa_cons (pe_op op_mod (pe_callTy call_int1 (by rfl) T.b_int (by decide +kernel) (pa_cons (pv 2) pa_nil)) (pv 3)) pa_nil)) (by rfl))))
      (pss_one (ps_ret (pe_tup (pa_cons (pe_op op_fdiv (pv 0) (pv 2)) (pa_cons (pe_op op_fdiv (pv 1) (pv 2)) pa_nil))))))), ?_⟩
    refine ⟨_, rfl, _, rfl, _, rfl, _, _, rfl, ?_⟩
    refine ⟨fun m σ H' => ∃ x y : Nat, σ = [some (.int t), some (.int b), some (.int (x : Nat)), some (.int (y : Nat))] ∧ Nat.gcd x y = Int.gcd t b ∧ m = y ∧ H' = H, ⟨_, t.natAbs, b.natAbs, ?_, rfl, rfl, rfl⟩, fun m σ H1 hW => ?_⟩
    · show [some (V.int t), some (V.int b), some (V.int (if t < 0 then -t else t)), some (V.int b)] = _
      rw [show (if t < 0 then -t else t) = ((t.natAbs : Nat) : Int) by split <;> omega, show ((b.natAbs : Nat) : Int) = b by omega]
    · obtain ⟨x, y, rfl, hg, em, rfl⟩ := hW
      refine ⟨_, rfl, _, _, rfl, rfl, _, rfl, ite2 (fun h => ?_) (fun h => ?_)⟩
      · have h : (0 : Int) < (y : Int) := of_decide_eq_true h
        refine ⟨fun σ' H' => ∃ m', m' < m ∧ _, fun _ _ z => z, ?_⟩
        refine ⟨_, rfl, _, rfl, .inl ⟨_, rfl, _, rfl, _, _, rfl, rfl, h, _, _, rfl, x % y, ?_, y, x % y, rfl, ?_, rfl, rfl⟩⟩
        · rw [em]; exact Nat.mod_lt _ (by omega)
        · rw [← hg, Nat.gcd_comm y, ← Nat.gcd_rec, Nat.gcd_comm]
      · have h : ¬ (0 : Int) < (y : Int) := fun z => h (decide_eq_true z)
        obtain rfl : y = 0 := by omega
        rw [Nat.gcd_zero_right] at hg
        subst hg
        exact ⟨_, rfl, _, rfl, _, _, rfl, rfl, ⟨by omega, by omega⟩, _, rfl, _, rfl, _, _, rfl, rfl, ⟨by omega, by omega⟩, len2, fun p np => fin _ p (same_upd np) upd_same⟩
abbrev s_Ltotal : Stmt := topS 40
abbrev n_Ltotal : List Str := ["amounts", "start", "k"]
theorem sc_Ltotal : FnScope n_Ltotal ["amounts", "start"] (defScope s_Ltotal) := ⟨rfl, rfl, rfl, by decide +kernel, rfl, by decide +kernel, by decide +kernel⟩
def spTot : Sp := fun vs H Q _ => ∃ (av sv : V) (am : List Int) (st : List Fr), vs = [av, sv] ∧ AV H av am ∧ SA H sv st ∧ am.length = st.length ∧ st.length ≤ 100 ∧ (∀ c ∈ am, -1000 ≤ c ∧ c ≤ 1000) ∧ (∀ f ∈ st, 0 < f.2 ∧ f.2 ≤ 12) ∧ ∀ H', Same H H' → Q (.int (tot am st)) H'
theorem ok_total {f : Addr} {fd : FuncData} (F : Fun K "_law_total" "_law_total" s_Ltotal f fd) (T : Txt K mg w aW aT es nn) : FnOk P w K mg base CX0 1 f fd ["amounts", "start"] spTot := by
  refine F.ok sc_Ltotal (fun vs H Q E h => ?_) (fun cdv A outer s H vs Q E hr h => ?_)
  · obtain ⟨av, sv, am, st, rfl, _⟩ := h
    rfl
  · obtain ⟨av, sv, am, st, rfl, ⟨pa, rfl, hpa⟩, ⟨ps, fs, rfl, hps, fv⟩, la, l100, ba, fo, fin⟩ := h
    have lf := fv.len
    refine ⟨_, (pss_one (ps_ret (pe_callB (cr_sum rfl) (by rfl) T.b_sum (by decide +kernel) (pa_cons (pe_lc (own := [("k", 2)]) rfl sc_Ltotal.nd (pi_range1 (by rfl) T.b_range (pa_cons (pe_callB call_len_seq (by rfl) T.b_len (by decide +kernel) (pa_cons (pv 1) pa_nil)) pa_nil)) (blkOk_by (N := n_Ltotal) (sc := defScope s_Ltotal) (by decide +kernel)) (fun _ _ _ _ _ => (pg_name (i := 2) sc_Ltotal.nd rfl (.inl rfl))) (fun _ _ _ _ _ => pts_nil) (fun _ _ _ _ _ => (pe_op op_mul (pe_op op_mul (pe_ix (r := rIxA K) ix_any (pv 0) (pv 2) (fun _ _ => rfl)) (pe_ix (r := rIxT K) ix_tup (pe_ix (r := rIxA K) ix_any (pv 1) (pv 2) (fun _ _ => rfl)) pe_int (fun _ _ => rfl))) (pe_op op_fdiv pe_int (pe_ix (r := rIxT K) ix_tup (pe_ix (r := rIxA K) ix_any (pv 1) (pv 2) (fun _ _ => rfl)) pe_int (fun _ _ => rfl)))))) pa_nil)))), ?_⟩
    refine ⟨_, rfl, ps, fs, rfl, seqA hps, _, rfl, by omega, by omega, fun D nD => ?_⟩
    refine lc_range (lo := 0) (n := ((fs.length : Nat) : Int).toNat) (fun i H' => H' D = some (.lst (((List.range i).map (totT am st)).map V.int)) ∧ Same H H') ⟨upd_same, same_upd nD⟩ (fun i H2 hi hI => ?_) (fun H2 hI => ?_)
    · obtain ⟨hD, sm⟩ := hI
      rw [Int.toNat_natCast] at hi
      rw [show ((0 : Int) + (i : Nat)) = (i : Int) by omega]
      have hpa2 : H2 pa = some (tL am) ∨ H2 pa = some (tI am) := hpa.elim (fun e => .inl (sm _ _ e)) fun e => .inr (sm _ _ e)
      have hps2 : H2 ps = some (.lst fs) ∨ H2 ps = some (.tup fs) := hps.elim (fun e => .inl (sm _ _ e)) fun e => .inr (sm _ _ e)
      have hc : am[i]? = some (am[i]'(by omega)) := List.getElem?_eq_getElem (by omega)
      have hf : st[i]? = some (st[i]'(by omega)) := List.getElem?_eq_getElem (by omega)
      obtain ⟨v, hv, pf, rfl, hpf⟩ := fv.at2 hf
      have bc := ba _ (List.mem_of_getElem? hc)
      have bf := fo _ (List.mem_of_getElem? hf)
      have et : totT am st i = am[i]'(by omega) * (st[i]'(by omega)).1 * (12 / (st[i]'(by omega)).2) := by
        unfold totT
        rw [List.getD_eq_getElem?_getD, List.getD_eq_getElem?_getD, hc, hf]; rfl
      generalize am[i]'(by omega) = c at *
      generalize st[i]'(by omega) = fr at *
      have d0 : 0 ≤ 12 / fr.2 := Int.ediv_nonneg (by decide) (by omega)
      have d1 : 12 / fr.2 ≤ 12 := Int.ediv_le_self _ (by decide)
      refine ⟨rfl, _, rfl, _, rfl, pa, _, _, .int c, rfl, rfl, AV.seq hpa2, atI_nat (by rw [List.getElem?_map, hc]; rfl), _, rfl, _, rfl, ps, _, _, .ref pf, rfl, rfl, seqA hps2, atI_nat hv, pf, _, 0, _, rfl, rfl, sq_tup (sm _ _ hpf), rfl, _, _, rfl, rfl, .inl ⟨by omega, by omega⟩, ?_⟩
      refine ⟨_, rfl, _, rfl, ps, _, _, .ref pf, rfl, rfl, seqA hps2, atI_nat hv, pf, _, 1, _, rfl, rfl, sq_tup (sm _ _ hpf), rfl, _, _, rfl, rfl, ⟨by omega, by omega⟩, _, _, rfl, rfl, .inr ⟨by omega, by omega⟩, _, hD, small1000 (by rw [List.length_map, List.length_map, List.length_range]; omega), ?_, same_at sm nD⟩
      rw [upd_same, List.range_succ, List.map_append, List.map_append, List.map_cons, et]; rfl
    · obtain ⟨hD, sm⟩ := hI
      rw [Int.toNat_natCast, lf] at hD
      exact ⟨D, _, rfl, sq_lst hD, fin _ sm⟩
end
end M56

namespace M56
open PySem PySem.Spec PyProof.Rows L2 SX Own Gd
open C8 (Cal pe_c pe_gc pe_mk Mak pss_cut)
theorem int_of {v : V} {ns : List Int} (h : v ∈ ns.map V.int) : ∃ z ∈ ns, v = .int z := by
  obtain ⟨z, hz, rfl⟩ := List.mem_map.mp h
  exact ⟨z, hz, rfl⟩
theorem len7 {a b c d e f g : V} : [a, b, c, d, e, f, g].length ≤ sizeLine := by
  rw [sizeLine_eq]
  exact (by decide : 7 ≤ 16777216)
/-- rows in a tuple -/
def RsV (H : Hp) (v : V) (rl : List Row) : Prop := ∃ p us, v = .ref p ∧ H p = some (.tup us) ∧ All2 (RV H) us rl
theorem RsV.tk {H H' : Hp} {v : V} {rl : List Row} (h : RsV H v rl) (s : TK H H') : RsV H' v rl := by
  obtain ⟨p, us, e, f, g⟩ := h
  exact ⟨p, us, e, s _ _ f, g.mono fun v x k => k.tk s⟩
def UsV (H : Hp) (v : V) (ul : List Unk) : Prop := ∃ p us, v = .ref p ∧ H p = some (.tup us) ∧ UVs H us ul
theorem UsV.tk {H H' : Hp} {v : V} {ul : List Unk} (h : UsV H v ul) (s : TK H H') : UsV H' v ul := by
  obtain ⟨p, us, e, f, g⟩ := h
  exact ⟨p, us, e, s _ _ f, g.tk s⟩
section
variable {P : Program} {w : World} {K : PySem.W.Frag} {mg : Str → Option Value} {base : Heap} {aW aT : Addr} {es : Array DictEntry} {nn : Nat}
abbrev s_Lstart : Stmt := topS 41
abbrev n_Lstart : List Str := ["deal", "many", "found", "k", "bottom"]
theorem sc_Lstart : FnScope n_Lstart ["deal", "many"] (defScope s_Lstart) := ⟨rfl, rfl, rfl, by decide +kernel, rfl, by decide +kernel, by decide +kernel⟩
def spStart : Sp := fun vs H Q _ => ∃ (h q : Addr) (n : Nat), vs = [.ref h, .int (n : Nat)] ∧ HpAt H h q ∧ n ≤ 10 ∧ ∀ H' p st, SV H' (.ref p) st → st.length = n → (∀ f ∈ st, F12 f) → HpAt H' h q → Kpt h q H H' → Q (.ref p) H'
theorem ok_start {f : Addr} {fd : FuncData} (F : Fun K "_law_start" "_law_start" s_Lstart f fd) (T : Txt K mg w aW aT es nn) (c_Lany : Cal P w K mg base 1 "_law_any" spDraw []) (c_Lof : Cal P w K mg base 2 "_law_of" spPickL []) (c_Llow : Cal P w K mg base 1 "_law_low" spLow []) : FnOk P w K mg base CX0 3 f fd ["deal", "many"] spStart := by
  refine F.ok sc_Lstart (fun vs H Q E h => ?_) (fun cdv A outer s H vs Q E hr h => ?_)
  · obtain ⟨h, q, n, rfl, _⟩ := h
    rfl
  · obtain ⟨h, q, n, rfl, a0, n10, fin⟩ := h
    refine ⟨_, (pss_cons (ps_set (i := 2) sc_Lstart.nd rfl (.inl rfl) (pe_lst pa_nil))
      (pss_cons (ps_for PassesOwn.never rfl (pi_range1 (by rfl) T.b_range (pa_cons (pv 1) pa_nil)) (pg_name (i := 3) sc_Lstart.nd rfl (.inl rfl)) (pss_cons (ps_set (i := 4) sc_Lstart.nd rfl (.inl rfl) (pe_c c_Lof hr (by decide) (by rfl) (pa_cons (pv 0) (pa_cons (pe_lst (pa_cons pe_int (pa_cons pe_int (pa_cons pe_int (pa_cons pe_int (pa_cons pe_int (pa_cons pe_int (pa_cons pe_int pa_nil)))))))) pa_nil))))
        (pss_one (ps_expr (pe_bm PySem.F.plainAttrs_list PySem.F.slot_list_append PySem.F.type_list_append mt_append (pv 2) (pa_cons (pe_c c_Llow hr (by decide) (by rfl) (pa_cons (pe_op op_sub (pe_c c_Lany hr (by decide) (by rfl) (pa_cons (pv 0) (pa_cons (pe_op op_mul pe_int (pv 4)) pa_nil))) (pe_op op_mul pe_int (pv 4))) (pa_cons (pv 4) pa_nil))) pa_nil))))))
      (pss_one (ps_ret (pe_callTy call_tuple_of (by rfl) T.b_tuple (by decide +kernel) (pa_cons (pv 2) pa_nil)))))), ?_⟩
    refine ⟨nil_ok, fun l nl => ?_⟩
    obtain ⟨l1, l2⟩ := a0.fresh nl
    refine ⟨_, rfl, (n : Int), rfl, by omega, by omega, for_range (lo := 0) (n := ((n : Nat) : Int).toNat) (fun i σ H' => ∃ y3 y4 us st, σ = [some (.ref h), some (.int (n : Nat)), some (.ref l), y3, y4] ∧ HpAt H' h q ∧ Kpt h q H H' ∧ H' l = some (.lst us) ∧ All2 (FV H') us st ∧ st.length = i ∧ ∀ f ∈ st, F12 f)
      ⟨none, none, [], [], rfl, a0.upd l1 l2, .of_same (same_upd nl), upd_same, .nil, rfl, by simp⟩ (fun i σ H1 hi hI => ?_) (fun σ H1 hI => ?_)⟩
    · obtain ⟨y3, y4, us, st, rfl, a, kp, el, al, ls, ok⟩ := hI
      rw [Int.toNat_natCast] at hi
      rw [show ((0 : Int) + (i : Nat)) = (i : Int) by omega]
      refine ⟨_, rfl, len7, fun p np => ?_⟩
      have k1 := same_upd (o := .lst [.int 1, .int 2, .int 2, .int 3, .int 4, .int 6, .int 12]) np
      obtain ⟨f1, f2⟩ := a.fresh np
      refine ⟨h, q, p, _, rfl, a.same k1, upd_same, f1, f2, by simp, by decide, fun v H2 m a2 kp2 => ?_⟩
      obtain ⟨b, hb, rfl⟩ := int_of (ns := [1, 2, 2, 3, 4, 6, 12]) m
      have bb := (by decide : ∀ z ∈ ([1, 2, 2, 3, 4, 6, 12] : List Int), 1 ≤ z ∧ z ≤ 12 ∧ z ∣ 12) b hb
      have kp12 := (Kpt.of_same (h := h) (q := q) k1).trans kp2
      have tk2 := (TK.of k1).trans (TK.kp kp2 (a.same k1))
      have el2 := kp12 _ _ el l1 l2
      refine ⟨_, rfl, .inl ⟨rfl, _, sq_lst el2⟩, _, rfl, _, rfl, _, _, rfl, rfl, .inl ⟨by decide, by decide⟩, h, q, 10 * b, rfl, a2, by omega, by omega, fun d H3 d0 d1 a3 kp3 => ?_⟩
      have el3 := kp3 _ _ el2 l1 l2
      have tk3 := tk2.trans (TK.kp kp3 a2)
      refine ⟨_, rfl, _, _, rfl, rfl, .inl ⟨by decide, by decide⟩, _, _, rfl, rfl, _, rfl, d - 4 * b, b, rfl, by omega, by omega, fun H4 p4 s4 hp4 => ?_⟩
      have el4 := s4 _ _ el3
      have tk4 := tk3.trans (TK.of s4)
      have tk5 := tk4.trans (TK.put (o := .lst (us ++ [.ref p4])) el4)
      have ll := al.len
      refine ⟨l, _, _, rfl, rfl, el4, small1000 (by omega), _, _, us ++ [.ref p4], st ++ [lowF (d - 4 * b) b], rfl, (a3.same s4).upd l1 l2, (((kp.trans kp12).trans kp3).trans (.of_same s4)).at_new nl, upd_same, (al.mono fun v x k => k.tk tk5).app ⟨p4, rfl, TK.put el4 _ _ hp4⟩, by rw [List.length_append, ls]; rfl, fun f hf => ?_⟩
      rcases List.mem_append.mp hf with z | z
      · exact ok f z
      · rw [List.mem_singleton.mp z]; exact lowF_12 (by omega) bb.2.2 (by omega)
    · rw [Int.toNat_natCast] at hI
      obtain ⟨y3, y4, us, st, rfl, a, kp, el, al, ls, ok⟩ := hI
      refine ⟨_, rfl, l, _, rfl, .inl ⟨sq_lst el, fun p np => ?_⟩⟩
      have k1 := same_upd (o := .tup us) np
      exact fin _ p st ⟨p, us, rfl, upd_same, al.mono fun v x k => k.tk (.of k1)⟩ ls ok (a.same k1) (kp.trans (.of_same k1))
abbrev s_Lways : Stmt := topS 43
abbrev n_Lways : List Str := ["rows", "at", "down", "up", "word", "amounts", "equal", "bound"]
theorem sc_Lways : FnScope n_Lways ["rows", "at"] (defScope s_Lways) := ⟨rfl, rfl, rfl, by decide +kernel, rfl, by decide +kernel, by decide +kernel⟩
def spLWays : Sp := fun vs H Q _ => ∃ (rv : V) (k : Nat) (rl : List Row), vs = [rv, .int (k : Nat)] ∧ RsV H rv rl ∧ (∀ r ∈ rl, k < r.am.length) ∧ ∀ H' p, Same H H' → H' p = some (.tup [.bl (ways rl k).1, .bl (ways rl k).2]) → Q (.ref p) H'
theorem ok_Lways {f : Addr} {fd : FuncData} (F : Fun K "_law_ways" "_law_ways" s_Lways f fd) (T : Txt K mg w aW aT es nn) : FnOk P w K mg base CX0 1 f fd ["rows", "at"] spLWays := by
  refine F.ok sc_Lways (fun vs H Q E h => ?_) (fun cdv A outer s H vs Q E hr h => ?_)
  · obtain ⟨rv, k, rl, rfl, _⟩ := h
    rfl
  · obtain ⟨rv, k, rl, rfl, ⟨pr, us, rfl, hpr, rvs⟩, lk, fin⟩ := h
    have lr := rvs.len
    refine ⟨_, (pss_cons (ps_asg (pe_tup (pa_cons pe_bl (pa_cons pe_bl pa_nil))) (pg_tup rfl (pgs_cons (pg_name (i := 2) sc_Lways.nd rfl (.inl rfl)) (pgs_cons (pg_name (i := 3) sc_Lways.nd rfl (.inl rfl)) pgs_nil))))
      (pss_cons (ps_for PassesOwn.never rfl (pi_tup (pv 0)) (pg_tup rfl (pgs_cons (pg_name (i := 4) sc_Lways.nd rfl (.inl rfl)) (pgs_cons (pg_name (i := 5) sc_Lways.nd rfl (.inl rfl)) (pgs_cons (pg_name (i := 6) sc_Lways.nd rfl (.inl rfl)) (pgs_cons (pg_name (i := 7) sc_Lways.nd rfl (.inl rfl)) pgs_nil))))) (pss_cut (ps_if (PW.pt (pw_or (pt_cmpR op_gt (pe_ix ix_tup (pv 5) (pv 1) (fun _ _ => rfl)) pe_int (nomark _)) (pw_or1 (PW.pt (pw_and (pt_val (pv 6)) (pw_and1 (pt_cmpR op_ne (pe_ix ix_tup (pv 5) (pv 1) (fun _ _ => rfl)) pe_int (nomark _)))))))) (pss_one (ps_set (i := 2) sc_Lways.nd rfl (.inl rfl) pe_bl)) pss_nil)
        (pss_one (ps_if (PW.pt (pw_or (pt_cmpR op_lt (pe_ix ix_tup (pv 5) (pv 1) (fun _ _ => rfl)) pe_int (nomark _)) (pw_or1 (PW.pt (pw_and (pt_val (pv 6)) (pw_and1 (pt_cmpR op_ne (pe_ix ix_tup (pv 5) (pv 1) (fun _ _ => rfl)) pe_int (nomark _)))))))) (pss_one (ps_set (i := 3) sc_Lways.nd rfl (.inl rfl) pe_bl)) pss_nil))))
      (pss_one (ps_ret (pe_tup (pa_cons (pv 2) (pa_cons (pv 3) pa_nil))))))), ?_⟩
    refine ⟨len2, fun t nt => ?_⟩
    have s1 := same_upd (o := .tup [.bl true, .bl true]) nt
    have et : upd H t (.tup [.bl true, .bl true]) t = some (.tup [.bl true, .bl true]) := upd_same
    generalize upd H t (.tup [.bl true, .bl true]) = H1 at *
    refine ⟨t, _, rfl, sq_tup et, rfl, _, _, rfl, _, _, rfl, rfl, ?_⟩
    refine ⟨_, rfl, pr, rfl, ⟨_, sq_tup (s1 _ _ hpr)⟩, for_tup (K := K) (a := pr) (xs := us) (fun i σ H' => ∃ y4 y5 y6 y7, σ = [some (.ref pr), some (.int (k : Nat)), some (.bl ((rl.take i).all (dnB · k))), some (.bl ((rl.take i).all (upB · k))), y4, y5, y6, y7] ∧ H' = H1)
      ⟨none, none, none, none, rfl, rfl⟩ (fun i σ H' _ h => by obtain ⟨_, _, _, _, _, rfl⟩ := h; exact sq_tup (s1 _ _ hpr)) (fun i v σ H' hv h => ?_) (fun σ H' h => ?_)⟩
    · obtain ⟨y4, y5, y6, y7, rfl, rfl⟩ := h
      obtain ⟨r, hr', p, qa, rfl, hp, hqa⟩ := rvs.at_ hv
      have hk := lk r (List.mem_of_getElem? hr')
      have hc : r.am[k]? = some r.am[k] := List.getElem?_eq_getElem hk
      have cV : (r.am.map V.int)[k]? = some (.int r.am[k]) := by rw [List.getElem?_map, hc]; rfl
      have hp1 := s1 _ _ hp
      have hq1 := s1 _ _ hqa
      refine ⟨p, _, rfl, sq_tup hp1, rfl, _, _, rfl, _, _, rfl, _, _, rfl, _, _, rfl, rfl, ?_⟩
      have eD := dnB_f hc
      have eU := upB_f hc
      rw [all_take (P := dnB) hr', all_take (P := upB) hr']
      generalize (rl.take i).all (dnB · k) = bd at *
      generalize (rl.take i).all (upB · k) = bu at *
      generalize r.am[k] = c at *
      refine ⟨fun σ H2 => σ = [some (.ref pr), some (.int (k : Nat)), some (.bl (bd && dnB r k)), some (.bl bu), some (.str "sum"), some (.ref qa), some (.bl r.eq), some (.int r.bd)] ∧ H2 = H', ?_, fun σ H2 hM => ?_⟩
      · by_cases h1 : 0 < c
        · have e : dnB r k = false := by rw [eD, decide_eq_true h1]; rfl
          rw [e, Bool.and_false]
          exact ⟨_, rfl, _, rfl, qa, _, _, _, rfl, rfl, sq_tup hq1, atI_nat cV, _, _, rfl, rfl, _, rfl, ite2 (fun _ => iteT ⟨rfl, rfl⟩) (fun h => absurd (decide_eq_true h1) h)⟩
        · refine ⟨_, rfl, _, rfl, qa, _, _, _, rfl, rfl, sq_tup hq1, atI_nat cV, _, _, rfl, rfl, _, rfl, ite2 (fun h => absurd (of_decide_eq_true h) h1) (fun _ => ?_)⟩
          cases he : r.eq with
          | false =>
            have e : dnB r k = true := by rw [eD, decide_eq_false h1, he, Bool.false_and]; rfl
            rw [e, Bool.and_true]
            exact ⟨_, rfl, false, rfl, iteF (iteF ⟨rfl, rfl⟩)⟩
          | true =>
            by_cases h2 : c = 0
            · have e : dnB r k = true := by rw [eD, decide_eq_false h1, he, h2]; simp
              rw [e, Bool.and_true]
              exact ⟨_, rfl, true, rfl, iteT ⟨_, rfl, _, rfl, qa, _, _, _, rfl, rfl, sq_tup hq1, atI_nat cV, rfl, _, rfl, ite2 (fun h => absurd h (by simp [h2])) (fun _ => ⟨rfl, rfl⟩)⟩⟩
            · have e : dnB r k = false := by rw [eD, decide_eq_false h1, he, decide_eq_true h2]; rfl
              rw [e, Bool.and_false]
              exact ⟨_, rfl, true, rfl, iteT ⟨_, rfl, _, rfl, qa, _, _, _, rfl, rfl, sq_tup hq1, atI_nat cV, rfl, _, rfl, ite2 (fun _ => ⟨rfl, rfl⟩) (fun h => absurd (by simp [h2]) h)⟩⟩
      · obtain ⟨rfl, rfl⟩ := hM
        by_cases h1 : c < 0
        · have e : upB r k = false := by rw [eU, decide_eq_true h1]; rfl
          rw [e, Bool.and_false]
          exact ⟨_, rfl, _, rfl, qa, _, _, _, rfl, rfl, sq_tup hq1, atI_nat cV, _, _, rfl, rfl, _, rfl, ite2 (fun _ => iteT ⟨_, _, _, _, rfl, rfl⟩) (fun h => absurd (decide_eq_true h1) h)⟩
        · refine ⟨_, rfl, _, rfl, qa, _, _, _, rfl, rfl, sq_tup hq1, atI_nat cV, _, _, rfl, rfl, _, rfl, ite2 (fun h => absurd (of_decide_eq_true h) h1) (fun _ => ?_)⟩
          cases he : r.eq with
          | false =>
            have e : upB r k = true := by rw [eU, decide_eq_false h1, he, Bool.false_and]; rfl
            rw [e, Bool.and_true]
            exact ⟨_, rfl, false, rfl, iteF (iteF ⟨_, _, _, _, rfl, rfl⟩)⟩
          | true =>
            by_cases h2 : c = 0
            · have e : upB r k = true := by rw [eU, decide_eq_false h1, he, h2]; simp
              rw [e, Bool.and_true]
              exact ⟨_, rfl, true, rfl, iteT ⟨_, rfl, _, rfl, qa, _, _, _, rfl, rfl, sq_tup hq1, atI_nat cV, rfl, _, rfl, ite2 (fun h => absurd h (by simp [h2])) (fun _ => ⟨_, _, _, _, rfl, rfl⟩)⟩⟩
            · have e : upB r k = false := by rw [eU, decide_eq_false h1, he, decide_eq_true h2]; rfl
              rw [e, Bool.and_false]
              exact ⟨_, rfl, true, rfl, iteT ⟨_, rfl, _, rfl, qa, _, _, _, rfl, rfl, sq_tup hq1, atI_nat cV, rfl, _, rfl, ite2 (fun _ => ⟨_, _, _, _, rfl, rfl⟩) (fun h => absurd (by simp [h2]) h)⟩⟩
    · obtain ⟨y4, y5, y6, y7, rfl, rfl⟩ := h
      rw [lr, List.take_length]
      exact ⟨_, rfl, _, rfl, len2, fun p np => fin _ p (s1.trans (same_upd np)) upd_same⟩
end
end M56

namespace M56
open PySem PySem.Spec PyProof.Rows L2 SX Own Gd
open C8 (Cal pe_c pe_gc pe_mk Mak pss_cut)
theorem UVs.at2 {H : Hp} {vs : List V} {as : List Unk} {i : Nat} {a : Unk} (h : UVs H vs as) (e : as[i]? = some a) : ∃ v, vs[i]? = some v ∧ UV H v a := by
  have l := h.len
  have hi : i < vs.length := by rw [l]; exact (List.getElem?_eq_some_iff.mp e).1
  obtain ⟨a', e', g⟩ := h.at_ (List.getElem?_eq_getElem hi)
  rw [e] at e'
  cases e'
  exact ⟨_, List.getElem?_eq_getElem hi, g⟩
section
variable {P : Program} {w : World} {K : PySem.W.Frag} {mg : Str → Option Value} {base : Heap} {aW aT : Addr} {es : Array DictEntry} {nn : Nat}
abbrev s_Lrounded : Stmt := topS 44
abbrev n_Lrounded : List Str := ["unknowns", "rows", "goal", "start", "found", "k", "top", "bottom", "down", "up"]
theorem sc_Lrounded : FnScope n_Lrounded ["unknowns", "rows", "goal", "start"] (defScope s_Lrounded) := ⟨rfl, rfl, rfl, by decide +kernel, rfl, by decide +kernel, by decide +kernel⟩
def spLRnd : Sp := fun vs H Q _ => ∃ (uv rv gv sv : V) (ul : List Unk) (rl : List Row) (goal : List Int) (st : List Fr), vs = [uv, rv, gv, sv] ∧ UsV H uv ul ∧ RsV H rv rl ∧ LV H gv goal ∧ SV H sv st ∧ ul.length ≤ 100 ∧ (∀ r ∈ rl, r.am.length = ul.length) ∧ st.length = ul.length ∧ goal.length = ul.length ∧ (∀ f ∈ st, FrOk f) ∧
  (∀ H' q l, Same H H' → rndN (rsOf st rl goal) ul.length = some l → H' q = some (tI l) → Q (.ref q) H') ∧ (∀ H', Same H H' → rndN (rsOf st rl goal) ul.length = none → Q .non H')
theorem ok_Lrounded {f : Addr} {fd : FuncData} (F : Fun K "_law_rounded" "_law_rounded" s_Lrounded f fd) (T : Txt K mg w aW aT es nn) (c_Lways : Cal P w K mg base 1 "_law_ways" spLWays []) : FnOk P w K mg base CX0 2 f fd ["unknowns", "rows", "goal", "start"] spLRnd := by
  refine F.ok sc_Lrounded (fun vs H Q E h => ?_) (fun cdv A outer s H vs Q E hr h => ?_)
  · obtain ⟨uv, rv, gv, sv, ul, rl, goal, st, rfl, _⟩ := h
    rfl
  · obtain ⟨uv, rv, gv, sv, ul, rl, goal, st, rfl, ⟨pu, us, rfl, hpu, uvs⟩, rs0, ⟨pg, rfl, hpg⟩, ⟨ps, fs, rfl, hps, fv⟩, u100, lam, lst, lg, fo, fin1, fin2⟩ := h
    obtain ⟨pr, rs, rfl, hpr, rvs⟩ := id rs0
    have lu := uvs.len
    refine ⟨_, (pss_cons (ps_set (i := 4) sc_Lrounded.nd rfl (.inl rfl) (pe_lst pa_nil))
      (pss_cons (ps_for PassesOwn.never rfl (pi_range1 (by rfl) T.b_range (pa_cons (pe_callB call_len_seq (by rfl) T.b_len (by decide +kernel) (pa_cons (pv 0) pa_nil)) pa_nil)) (pg_name (i := 5) sc_Lrounded.nd rfl (.inl rfl)) (pss_cons (ps_asg (pe_ix ix_tup (pv 3) (pv 5) (fun _ _ => rfl)) (pg_tup rfl (pgs_cons (pg_name (i := 6) sc_Lrounded.nd rfl (.inl rfl)) (pgs_cons (pg_name (i := 7) sc_Lrounded.nd rfl (.inl rfl)) pgs_nil))))
        (pss_cons (ps_asg (pe_c c_Lways hr (by decide) (by rfl) (pa_cons (pv 1) (pa_cons (pv 5) pa_nil))) (pg_tup rfl (pgs_cons (pg_name (i := 8) sc_Lrounded.nd rfl (.inl rfl)) (pgs_cons (pg_name (i := 9) sc_Lrounded.nd rfl (.inl rfl)) pgs_nil))))
        (pss_cons (ps_if (PW.pt (pw_and (pt_cmpR op_ne (pv 7) pe_int (nomark _)) (pw_and (pt_not (pt_val (pv 8))) (pw_and1 (pt_not (pt_val (pv 9))))))) (pss_one (ps_ret pe_non)) pss_nil)
        (pss_one (ps_if (PW.pt (pw_or (pt_cmpR op_eq (pv 7) pe_int (nomark _)) (pw_or1 (PW.pt (pw_and (pt_val (pv 8)) (pw_and1 (PW.pt (pw_or (pt_cmpR op_ge (pe_ix ix_tup (pv 2) (pv 5) (fun _ _ => rfl)) pe_int (nomark _)) (pw_or1 (pt_not (pt_val (pv 9)))))))))))) (pss_one (ps_expr (pe_bm PySem.F.plainAttrs_list PySem.F.slot_list_append PySem.F.type_list_append mt_append (pv 4) (pa_cons (pe_op op_fdiv (pv 6) (pv 7)) pa_nil)))) (pss_one (ps_expr (pe_bm PySem.F.plainAttrs_list PySem.F.slot_list_append PySem.F.type_list_append mt_append (pv 4) (pa_cons (pe_op op_add (pe_op op_fdiv (pv 6) (pv 7)) pe_int) pa_nil))))))))))
      (pss_one (ps_ret (pe_callTy call_tuple_of (by rfl) T.b_tuple (by decide +kernel) (pa_cons (pv 4) pa_nil)))))), ?_⟩
    refine ⟨nil_ok, fun l nl => ?_⟩
    have k1 := same_upd (o := .lst []) nl
    have el : upd H l (.lst []) l = some (.lst []) := upd_same
    generalize upd H l (.lst []) = H1 at *
    refine ⟨_, rfl, pu, us, rfl, .inr (sq_tup (k1 _ _ hpu)), _, rfl, by omega, by omega, for_range (lo := 0) (n := ((us.length : Nat) : Int).toNat) (fun i σ H' => ∃ y5 y6 y7 y8 y9 m, σ = [some (.ref pu), some (.ref pr), some (.ref pg), some (.ref ps), some (.ref l), y5, y6, y7, y8, y9] ∧ Same H H' ∧ H' l = some (tL m) ∧ rndN (rsOf st rl goal) i = some m)
      ⟨none, none, none, none, none, [], rfl, k1, el, rfl⟩ (fun i σ H2 hi hI => ?_) (fun σ H2 hI => ?_)⟩
    · obtain ⟨y5, y6, y7, y8, y9, m, rfl, sm, em, hm⟩ := hI
      rw [Int.toNat_natCast] at hi
      rw [show ((0 : Int) + (i : Nat)) = (i : Int) by omega]
      have hf : st[i]? = some (st[i]'(by omega)) := List.getElem?_eq_getElem (by omega)
      have hg : goal[i]? = some (goal[i]'(by omega)) := List.getElem?_eq_getElem (by omega)
      obtain ⟨v, hv, pf, rfl, hpf⟩ := fv.at2 hf
      obtain ⟨f0, f1⟩ := fo _ (List.mem_of_getElem? hf)
      have ers : rsOf st rl goal i = rstep (st[i]'(by omega)) (ways rl i) (goal[i]'(by omega)) := by
        unfold rsOf
        rw [List.getD_eq_getElem?_getD, List.getD_eq_getElem?_getD, hf, hg]; rfl
      generalize st[i]'(by omega) = fr at *
      generalize goal[i]'(by omega) = g at *
      have gV : (goal.map V.int)[i]? = some (.int g) := by rw [List.getElem?_map, hg]; rfl
      have lm := rndN_len hm
      refine ⟨_, rfl, _, rfl, ps, _, _, .ref pf, rfl, rfl, sq_tup (sm _ _ hps), atI_nat hv, pf, _, rfl, sq_tup (sm _ _ hpf), rfl, _, _, rfl, _, _, rfl, rfl, ?_⟩
      refine ⟨_, rfl, _, rfl, .ref pr, i, rl, rfl, rs0.tk (.of sm), (fun r hr' => by rw [lam r hr']; omega), fun H3 p3 s3 hp3 => ⟨p3, _, rfl, sq_tup hp3, rfl, _, _, rfl, _, _, rfl, rfl, ?_⟩⟩
      have sm3 := sm.trans s3
      have em3 := s3 _ _ em
      generalize hw : ways rl i = wy at *
      have app : ∀ z : Int, rstep fr wy g = some z → ∀ y5 y6 y7 y8 y9, (fun σ H' => ∃ y5 y6 y7 y8 y9 m, σ = [some (.ref pu), some (.ref pr), some (.ref pg), some (.ref ps), some (V.ref l), y5, y6, y7, y8, y9] ∧ Same H H' ∧ H' l = some (tL m) ∧ rndN (rsOf st rl goal) (i + 1) = some m) [some (.ref pu), some (.ref pr), some (.ref pg), some (.ref ps), some (V.ref l), y5, y6, y7, y8, y9] (upd H3 l (.lst (m.map V.int ++ [.int z]))) := fun z hz y5 y6 y7 y8 y9 => by
        refine ⟨y5, y6, y7, y8, y9, m ++ [z], rfl, same_at sm3 nl, ?_, rndN_some hm (ers.trans hz)⟩
        rw [upd_same]
        show some (HO.lst _) = some (HO.lst ((m ++ [z]).map V.int))
        rw [List.map_append]; rfl
      have sm1000 : (m.map V.int).length < sizeLine := small1000 (by rw [List.length_map]; omega)
      by_cases b1 : fr.2 = 1
      · have ez : rstep fr wy g = some (fr.1 / fr.2) := by unfold rstep; rw [if_pos b1]
        exact ⟨_, rfl, rfl, _, rfl, ite2 (fun h => absurd h (by simp [b1])) (fun _ => ⟨_, rfl, rfl, _, rfl, ite2 (fun _ => iteT ⟨_, rfl, .inl ⟨rfl, _, sq_lst em3⟩, _, rfl, _, rfl, _, _, rfl, rfl, ⟨f0, by omega⟩, l, _, _, rfl, rfl, em3, sm1000, app _ ez _ _ _ _ _⟩) (fun h => absurd (by simp [b1]) h)⟩)⟩
      · refine ⟨_, rfl, rfl, _, rfl, ite2 (fun _ => ?_) (fun h => absurd (by simp [b1]) h)⟩
        obtain ⟨fa, ri⟩ := wy
        cases fa with
        | false =>
          cases ri with
          | false =>
            have ez : rstep fr (false, false) g = none := by unfold rstep; rw [if_neg b1, if_pos ⟨rfl, rfl⟩]
            exact ⟨_, rfl, false, rfl, iteT ⟨_, rfl, false, rfl, iteT (fin2 _ sm3 (rndN_none (rndN_none1 (ers.trans ez)) _ (by omega)))⟩⟩
          | true =>
            have ez : rstep fr (false, true) g = some (fr.1 / fr.2 + 1) := by unfold rstep; rw [if_neg b1, if_neg (by simp), if_neg (by simp)]
            exact ⟨_, rfl, false, rfl, iteT ⟨_, rfl, true, rfl, iteF ⟨_, rfl, rfl, _, rfl, ite2 (fun h => absurd (by simpa using h) b1) (fun _ => ⟨_, rfl, false, rfl, iteF (iteF ⟨_, rfl, .inl ⟨rfl, _, sq_lst em3⟩, _, rfl, _, rfl, _, _, rfl, rfl, ⟨f0, by omega⟩, _, _, rfl, rfl, l, _, _, rfl, rfl, em3, sm1000, app _ ez _ _ _ _ _⟩)⟩)⟩⟩⟩
        | true =>
          refine ⟨_, rfl, true, rfl, iteF (iteF ⟨_, rfl, rfl, _, rfl, ite2 (fun h => absurd (by simpa using h) b1) (fun _ => ⟨_, rfl, true, rfl, iteT ⟨_, rfl, _, rfl, pg, _, _, _, rfl, rfl, sq_tup (sm3 _ _ hpg), atI_nat gV, _, _, rfl, rfl, _, rfl, ite2 (fun hg0 => ?_) (fun hg0 => ?_)⟩⟩)⟩)⟩
          · have hg0 : 0 ≤ g := of_decide_eq_true hg0
            have ez : rstep fr (true, ri) g = some (fr.1 / fr.2) := by unfold rstep; rw [if_neg b1, if_neg (by simp), if_pos ⟨rfl, .inl hg0⟩]
            exact iteT ⟨_, rfl, .inl ⟨rfl, _, sq_lst em3⟩, _, rfl, _, rfl, _, _, rfl, rfl, ⟨f0, by omega⟩, l, _, _, rfl, rfl, em3, sm1000, app _ ez _ _ _ _ _⟩
          · have hg0 : ¬ 0 ≤ g := fun z => hg0 (decide_eq_true z)
            cases ri with
            | false =>
              have ez : rstep fr (true, false) g = some (fr.1 / fr.2) := by unfold rstep; rw [if_neg b1, if_neg (by simp), if_pos (by simp)]
              exact ⟨_, rfl, false, rfl, iteT ⟨_, rfl, .inl ⟨rfl, _, sq_lst em3⟩, _, rfl, _, rfl, _, _, rfl, rfl, ⟨f0, by omega⟩, l, _, _, rfl, rfl, em3, sm1000, app _ ez _ _ _ _ _⟩⟩
            | true =>
              have ez : rstep fr (true, true) g = some (fr.1 / fr.2 + 1) := by unfold rstep; rw [if_neg b1, if_neg (by simp), if_neg (by simp [hg0])]
              exact ⟨_, rfl, true, rfl, iteF ⟨_, rfl, .inl ⟨rfl, _, sq_lst em3⟩, _, rfl, _, rfl, _, _, rfl, rfl, ⟨f0, by omega⟩, _, _, rfl, rfl, l, _, _, rfl, rfl, em3, sm1000, app _ ez _ _ _ _ _⟩⟩
    · rw [Int.toNat_natCast] at hI
      obtain ⟨y5, y6, y7, y8, y9, m, rfl, sm, em, hm⟩ := hI
      rw [lu] at hm
      refine ⟨_, rfl, l, _, rfl, .inl ⟨sq_lst em, fun q2 nq2 => ?_⟩⟩
      exact fin1 _ q2 m (sm.trans (same_upd nq2)) hm upd_same
abbrev s_Lkeeps : Stmt := topS 45
abbrev n_Lkeeps : List Str := ["unknowns", "rows", "start", "k", "word", "amounts", "equal", "bound", "over"]
theorem sc_Lkeeps : FnScope n_Lkeeps ["unknowns", "rows", "start"] (defScope s_Lkeeps) := ⟨rfl, rfl, rfl, by decide +kernel, rfl, by decide +kernel, by decide +kernel⟩
def spKeeps : Sp := fun vs H Q _ => ∃ (uv rv sv : V) (ul : List Unk) (rl : List Row) (st : List Fr), vs = [uv, rv, sv] ∧ UsV H uv ul ∧ RsV H rv rl ∧ SA H sv st ∧ ul.length ≤ 100 ∧ (∀ r ∈ rl, r.am.length = ul.length ∧ ∀ c ∈ r.am, -1000 ≤ c ∧ c ≤ 1000) ∧ st.length = ul.length ∧ (∀ f ∈ st, 0 < f.2 ∧ f.2 ≤ 12) ∧
  (∀ (k : Nat) u f, ul[k]? = some u → st[k]? = some f → u.2.1 * f.2 ≤ f.1 ∧ f.1 ≤ u.2.2 * f.2) ∧ (∀ r ∈ rl, 0 ≤ tot r.am st - 12 * r.bd ∧ (r.eq = true → tot r.am st - 12 * r.bd = 0)) ∧ ∀ H', Same H H' → Q (.bl true) H'
theorem ok_Lkeeps {f : Addr} {fd : FuncData} (F : Fun K "_law_keeps" "_law_keeps" s_Lkeeps f fd) (T : Txt K mg w aW aT es nn) (c_Ltotal : Cal P w K mg base 1 "_law_total" spTot []) : FnOk P w K mg base CX0 2 f fd ["unknowns", "rows", "start"] spKeeps := by
  refine F.ok sc_Lkeeps (fun vs H Q E h => ?_) (fun cdv A outer s H vs Q E hr h => ?_)
  · obtain ⟨uv, rv, sv, ul, rl, st, rfl, _⟩ := h
    rfl
  · obtain ⟨uv, rv, sv, ul, rl, st, rfl, ⟨pu, us, rfl, hpu, uvs⟩, rs0, sa0, u100, lam, lst, fo, hU, hR, fin⟩ := h
    obtain ⟨pr, rs, rfl, hpr, rvs⟩ := id rs0
    obtain ⟨ps, fs, rfl, hps, fv⟩ := id sa0
    have lu := uvs.len
    have lr := rvs.len
    refine ⟨_, (pss_cons (ps_for PassesOwn.never rfl (pi_range1 (by rfl) T.b_range (pa_cons (pe_callB call_len_seq (by rfl) T.b_len (by decide +kernel) (pa_cons (pv 0) pa_nil)) pa_nil)) (pg_name (i := 3) sc_Lkeeps.nd rfl (.inl rfl)) (pss_one (ps_if (pt_not (pt_chain op_le op_le (pe_op op_mul (pe_ix ix_tup (pe_ix ix_tup (pv 0) (pv 3) (fun _ _ => rfl)) pe_int (fun _ _ => rfl)) (pe_ix ix_tup (pe_ix ix_any (pv 2) (pv 3) (fun _ _ => rfl)) pe_int (fun _ _ => rfl))) (pe_ix ix_tup (pe_ix ix_any (pv 2) (pv 3) (fun _ _ => rfl)) pe_int (fun _ _ => rfl)) (pe_op op_mul (pe_ix ix_tup (pe_ix ix_tup (pv 0) (pv 3) (fun _ _ => rfl)) pe_int (fun _ _ => rfl)) (pe_ix ix_tup (pe_ix ix_any (pv 2) (pv 3) (fun _ _ => rfl)) pe_int (fun _ _ => rfl))))) (pss_one (ps_ret pe_bl)) pss_nil)))
      (pss_cons (ps_for PassesOwn.never rfl (pi_tup (pv 1)) (pg_tup rfl (pgs_cons (pg_name (i := 4) sc_Lkeeps.nd rfl (.inl rfl)) (pgs_cons (pg_name (i := 5) sc_Lkeeps.nd rfl (.inl rfl)) (pgs_cons (pg_name (i := 6) sc_Lkeeps.nd rfl (.inl rfl)) (pgs_cons (pg_name (i := 7) sc_Lkeeps.nd rfl (.inl rfl)) pgs_nil))))) (pss_cons (ps_set (i := 8) sc_Lkeeps.nd rfl (.inl rfl) (pe_op op_sub (pe_c c_Ltotal hr (by decide) (by rfl) (pa_cons (pv 5) (pa_cons (pv 2) pa_nil))) (pe_op op_mul pe_int (pv 7))))
        (pss_one (ps_if (PW.pt (pw_or (pt_cmpR op_lt (pv 8) pe_int (nomark _)) (pw_or1 (PW.pt (pw_and (pt_val (pv 6)) (pw_and1 (pt_cmpR op_ne (pv 8) pe_int (nomark _)))))))) (pss_one (ps_ret pe_bl)) pss_nil))))
      (pss_one (ps_ret pe_bl)))), ?_⟩
    refine ⟨_, rfl, pu, us, rfl, .inr (sq_tup hpu), _, rfl, by omega, by omega, for_range (lo := 0) (n := ((us.length : Nat) : Int).toNat) (fun i σ H' => ∃ y3, σ = [some (.ref pu), some (.ref pr), some (.ref ps), y3, none, none, none, none, none] ∧ H' = H)
      ⟨none, rfl, rfl⟩ (fun i σ H2 hi hI => ?_) (fun σ H2 hI => ?_)⟩
    · obtain ⟨y3, rfl, rfl⟩ := hI
      rw [Int.toNat_natCast] at hi
      rw [show ((0 : Int) + (i : Nat)) = (i : Int) by omega]
      have hu : ul[i]? = some (ul[i]'(by omega)) := List.getElem?_eq_getElem (by omega)
      have hf : st[i]? = some (st[i]'(by omega)) := List.getElem?_eq_getElem (by omega)
      obtain ⟨c1, c2⟩ := hU i _ _ hu hf
      obtain ⟨f0, f1⟩ := fo _ (List.mem_of_getElem? hf)
      obtain ⟨v, hv, pf, rfl, hpf⟩ := fv.at2 hf
      obtain ⟨v2, hv2, pz, rfl, hpz⟩ := uvs.at2 hu
      generalize st[i]'(by omega) = fr at *
      generalize ul[i]'(by omega) = un at *
      refine ⟨_, rfl, _, rfl, pu, _, _, .ref pz, rfl, rfl, sq_tup hpu, atI_nat hv2, pz, _, 1, _, rfl, rfl, sq_tup hpz, rfl, _, rfl, _, rfl, ps, _, _, .ref pf, rfl, rfl, seqA hps, atI_nat hv, pf, _, 1, _, rfl, rfl, sq_tup hpf, rfl, _, _, rfl, rfl, .inr ⟨by omega, by omega⟩, ?_⟩
      refine ⟨_, rfl, _, rfl, ps, _, _, .ref pf, rfl, rfl, seqA hps, atI_nat hv, pf, _, 0, _, rfl, rfl, sq_tup hpf, rfl, _, _, rfl, rfl, _, rfl, ite2 (fun _ => ?_) (fun h => absurd (decide_eq_true c1) h)⟩
      refine ⟨_, rfl, _, rfl, pu, _, _, .ref pz, rfl, rfl, sq_tup hpu, atI_nat hv2, pz, _, 2, _, rfl, rfl, sq_tup hpz, rfl, _, rfl, _, rfl, ps, _, _, .ref pf, rfl, rfl, seqA hps, atI_nat hv, pf, _, 1, _, rfl, rfl, sq_tup hpf, rfl, _, _, rfl, rfl, .inr ⟨by omega, by omega⟩, ?_⟩
      refine ⟨_, _, rfl, rfl, _, rfl, ite2 (fun h => ?_) (fun _ => ⟨_, rfl, rfl⟩)⟩
      exact absurd h (by simp; omega)
    · obtain ⟨y3, rfl, rfl⟩ := hI
      refine ⟨_, rfl, pr, rfl, ⟨_, sq_tup hpr⟩, for_tup (K := K) (a := pr) (xs := rs) (fun i σ H' => ∃ y3 y4 y5 y6 y7 y8, σ = [some (.ref pu), some (.ref pr), some (.ref ps), y3, y4, y5, y6, y7, y8] ∧ Same H2 H')
        ⟨_, none, none, none, none, none, rfl, Same.refl _⟩ (fun i σ H' _ h => by obtain ⟨_, _, _, _, _, _, _, sm⟩ := h; exact sq_tup (sm _ _ hpr)) (fun i v σ H' hv h => ?_) (fun σ H' h => ?_)⟩
      · obtain ⟨z3, z4, z5, z6, z7, z8, rfl, sm⟩ := h
        obtain ⟨r, hr', p, qa, rfl, hp, hqa⟩ := rvs.at_ hv
        have mr := List.mem_of_getElem? hr'
        obtain ⟨l1, b1⟩ := lam r mr
        obtain ⟨t1, t2⟩ := hR r mr
        refine ⟨p, _, rfl, sq_tup (sm _ _ hp), rfl, _, _, rfl, _, _, rfl, _, _, rfl, _, _, rfl, rfl, ?_⟩
        refine ⟨_, rfl, _, rfl, .ref qa, .ref ps, r.am, st, rfl, ⟨qa, rfl, .inr (sm _ _ hqa)⟩, sa0.same sm, by omega, by omega, b1, fo, fun H3 s3 => ⟨_, rfl, _, _, rfl, rfl, .inl ⟨by decide, by decide⟩, _, _, rfl, rfl, ?_⟩⟩
        have sm3 := sm.trans s3
        refine ⟨_, rfl, _, _, rfl, rfl, _, rfl, ite2 (fun h => absurd (show tot r.am st - 12 * r.bd < 0 from of_decide_eq_true h) (by omega)) (fun _ => ?_)⟩
        cases he : r.eq with
        | false => exact ⟨_, rfl, false, rfl, iteF (iteF ⟨_, _, _, _, _, _, rfl, sm3⟩)⟩
        | true =>
          have e0 := t2 he
          have e1 : tot r.am st = 12 * r.bd := by omega
          exact ⟨_, rfl, true, rfl, iteT ⟨_, rfl, rfl, _, rfl, ite2 (fun h => absurd h (by simp [e1])) (fun _ => ⟨_, _, _, _, _, _, rfl, sm3⟩)⟩⟩
      · obtain ⟨z3, z4, z5, z6, z7, z8, rfl, sm⟩ := h
        exact fin _ sm
end
end M56

namespace M56
open PySem PySem.Spec PyProof.Rows L2 SX Own Gd
/-! ### sums of rows at rounded points -/
theorem sum_le {f g : Nat → Int} {n : Nat} (h : ∀ k, k < n → f k ≤ g k) : ((List.range n).map f).sum ≤ ((List.range n).map g).sum := by
  induction n with
  | zero => exact Int.le_refl _
  | succ n ih =>
    rw [List.range_succ, List.map_append, List.map_append, List.sum_append, List.sum_append]
    have a := ih fun k hk => h k (by omega)
    have b := h n (by omega)
    simp only [List.map_cons, List.map_nil, List.sum_cons, List.sum_nil]
    omega
theorem sum_eq {f g : Nat → Int} {n : Nat} (h : ∀ k, k < n → f k = g k) : ((List.range n).map f).sum = ((List.range n).map g).sum :=
  congrArg List.sum (List.map_congr_left fun k hk => h k (List.mem_range.mp hk))
theorem sum_mul {f : Nat → Int} {n : Nat} {c : Int} : ((List.range n).map (fun k => c * f k)).sum = c * ((List.range n).map f).sum := by
  induction n with
  | zero => simp
  | succ n ih =>
    rw [List.range_succ, List.map_append, List.map_append, List.sum_append, List.sum_append, ih]
    simp only [List.map_cons, List.map_nil, List.sum_cons, List.sum_nil, Int.add_zero]
    rw [Int.mul_add]
theorem getD_of {α : Type} {l : List α} {k : Nat} {x d : α} (h : l[k]? = some x) : l.getD k d = x := by
  rw [List.getD_eq_getElem?_getD, h]; rfl
theorem tot_12 {am : List Int} {st : List Fr} (l : am.length = st.length) : tot (am.map (12 * ·)) st = 12 * tot am st := by
  unfold tot
  rw [← sum_mul]
  refine sum_eq fun k hk => ?_
  have hk' : k < am.length := by omega
  unfold totT
  rw [getD_of (x := 12 * am[k]) (by rw [List.getElem?_map, List.getElem?_eq_getElem hk']; rfl), getD_of (x := am[k]) (List.getElem?_eq_getElem hk')]
  rw [Int.mul_assoc 12, Int.mul_assoc 12]
def ptsOf (l : List Int) : List Fr := l.map fun z => (z, 1)
theorem ptsOf_len (l : List Int) : (ptsOf l).length = l.length := List.length_map ..
/-- what a step rounds to: b·c = 12 -/
theorem step_cases {f : Fr} (h : F12 f) {w : Bool × Bool} {g z : Int} (e : rstep f w g = some z) :
    (f.2 = 1 ∧ z = f.1) ∨ (f.2 ≠ 1 ∧ w.1 = true ∧ z = f.1 / f.2) ∨ (f.2 ≠ 1 ∧ w.2 = true ∧ z = f.1 / f.2 + 1) := by
  unfold rstep at e
  by_cases b1 : f.2 = 1
  · rw [if_pos b1] at e
    refine .inl ⟨b1, ?_⟩
    rw [b1, Int.ediv_one] at e
    exact (Option.some.inj e).symm
  · rw [if_neg b1] at e
    by_cases c : w.1 = false ∧ w.2 = false
    · rw [if_pos c] at e; cases e
    · rw [if_neg c] at e
      by_cases d : w.1 = true ∧ (0 ≤ g ∨ w.2 = false)
      · rw [if_pos d] at e
        exact .inr (.inl ⟨b1, d.1, (Option.some.inj e).symm⟩)
      · rw [if_neg d] at e
        refine .inr (.inr ⟨b1, ?_, (Option.some.inj e).symm⟩)
        cases h1 : w.2 with
        | true => rfl
        | false =>
          exfalso
          cases h2 : w.1 with
          | true => exact d ⟨h2, .inr h1⟩
          | false => exact c ⟨h2, h1⟩
theorem fl_le {t b : Int} (h : 0 < b) : t / b * b ≤ t := Int.ediv_mul_le t (by omega)
theorem lt_fl {t b : Int} (h : 0 < b) : t < (t / b + 1) * b := Int.lt_ediv_add_one_mul_self t h
theorem F12.c {f : Fr} (h : F12 f) : f.2 * (12 / f.2) = 12 := Int.mul_ediv_cancel' h.dv
theorem F12.c0 {f : Fr} (h : F12 f) : 0 ≤ 12 / f.2 := Int.ediv_nonneg (by decide) (by have := h.pos; omega)
theorem dn_of {r : Row} {k : Nat} (h : dnB r k = true) : amAt r k ≤ 0 ∧ (r.eq = true → amAt r k = 0) := by
  unfold dnB at h
  simp only [Bool.not_eq_true', Bool.or_eq_false_iff, decide_eq_false_iff_not, Bool.and_eq_false_imp, Decidable.not_not] at h
  refine ⟨by have := h.1; omega, fun e => ?_⟩
  have := h.2 e
  simpa using this
theorem up_of {r : Row} {k : Nat} (h : upB r k = true) : 0 ≤ amAt r k ∧ (r.eq = true → amAt r k = 0) := by
  unfold upB at h
  simp only [Bool.not_eq_true', Bool.or_eq_false_iff, decide_eq_false_iff_not, Bool.and_eq_false_imp, Decidable.not_not] at h
  refine ⟨by have := h.1; omega, fun e => ?_⟩
  have := h.2 e
  simpa using this
theorem term_le {f : Fr} (h : F12 f) {rl : List Row} {r : Row} (hr : r ∈ rl) {k : Nat} {g z : Int} (e : rstep f (ways rl k) g = some z) :
    amAt r k * f.1 * (12 / f.2) ≤ amAt r k * z * 12 ∧ (r.eq = true → amAt r k * f.1 * (12 / f.2) = amAt r k * z * 12) := by
  have hc := h.c
  have c0 := h.c0
  have b0 := h.pos
  generalize hcc : 12 / f.2 = c at *
  rcases step_cases h e with ⟨b1, rfl⟩ | ⟨b1, w1, rfl⟩ | ⟨b1, w2, rfl⟩
  · have : c = 12 := by rw [b1] at hc; omega
    subst this
    exact ⟨Int.le_refl _, fun _ => rfl⟩
  · have d := dn_of (List.all_eq_true.mp w1 r hr)
    have key : f.1 / f.2 * 12 ≤ f.1 * c := by
      have := Int.mul_le_mul_of_nonneg_right (fl_le (t := f.1) b0) c0
      rw [Int.mul_assoc, hc] at this; exact this
    refine ⟨?_, fun q => by rw [d.2 q]; simp⟩
    rw [Int.mul_assoc, Int.mul_assoc]
    exact Int.mul_le_mul_of_nonpos_left d.1 key
  · have d := up_of (List.all_eq_true.mp w2 r hr)
    have key : f.1 * c ≤ (f.1 / f.2 + 1) * 12 := by
      have := Int.mul_le_mul_of_nonneg_right (Int.le_of_lt (lt_fl (t := f.1) b0)) c0
      rw [Int.mul_assoc, hc] at this; exact this
    refine ⟨?_, fun q => by rw [d.2 q]; simp⟩
    rw [Int.mul_assoc, Int.mul_assoc]
    exact Int.mul_le_mul_of_nonneg_left key d.1
theorem tot_round {st : List Fr} (hs : ∀ f ∈ st, F12 f) {rl : List Row} {r : Row} (hr : r ∈ rl) {goal l : List Int} (e : rndN (rsOf st rl goal) st.length = some l) :
    tot r.am st ≤ tot r.am (ptsOf l) ∧ (r.eq = true → tot r.am st = tot r.am (ptsOf l)) := by
  have ll := rndN_len e
  have key : ∀ k, k < st.length → totT r.am st k ≤ totT r.am (ptsOf l) k ∧ (r.eq = true → totT r.am st k = totT r.am (ptsOf l) k) := fun k hk => by
    obtain ⟨z, hz, hl⟩ := rndN_at e k hk
    have hf : st[k]? = some st[k] := List.getElem?_eq_getElem hk
    have t := term_le (hs _ (List.mem_of_getElem? hf)) hr (k := k) (g := goal.getD k 0) (z := z) (by
      have := hz
      unfold rsOf at this
      rw [getD_of hf] at this; exact this)
    unfold totT
    rw [getD_of hf, getD_of (x := ((z, 1) : Fr)) (by unfold ptsOf; rw [List.getElem?_map, hl]; rfl)]
    exact t
  unfold tot
  rw [ptsOf_len, ll]
  exact ⟨sum_le fun k hk => (key k hk).1, fun q => sum_eq fun k hk => (key k hk).2 q⟩
/-- ends around a fraction -/
def UN (u : Unk) (f : Fr) : Prop := u.2.1 ≤ f.1 / f.2 ∧ -((-f.1) / f.2) ≤ u.2.2
theorem UN.keep {u : Unk} {f : Fr} (h : UN u f) (h0 : 0 < f.2) : u.2.1 * f.2 ≤ f.1 ∧ f.1 ≤ u.2.2 * f.2 := by
  constructor
  · exact Int.le_trans (Int.mul_le_mul_of_nonneg_right h.1 (by omega)) (fl_le h0)
  · have a : -u.2.2 ≤ (-f.1) / f.2 := by have := h.2; omega
    have b := Int.le_trans (Int.mul_le_mul_of_nonneg_right a (by omega)) (fl_le (t := -f.1) h0)
    rw [Int.neg_mul] at b
    omega
theorem UN.le {u : Unk} {f : Fr} (h : UN u f) (h0 : 0 < f.2) : u.2.1 ≤ u.2.2 := by
  obtain ⟨a, b⟩ := h.keep h0
  exact Int.le_of_mul_le_mul_right (Int.le_trans a b) h0
theorem UN.pt {u : Unk} {f : Fr} (h : UN u f) (hf : F12 f) {w : Bool × Bool} {g z : Int} (e : rstep f w g = some z) : u.2.1 ≤ z ∧ z ≤ u.2.2 := by
  have h0 := hf.pos
  rcases step_cases hf e with ⟨b1, rfl⟩ | ⟨b1, w1, rfl⟩ | ⟨b1, w2, rfl⟩
  · have := h.keep h0
    rw [b1] at this; omega
  · refine ⟨h.1, ?_⟩
    have k := h.keep h0
    exact Int.le_of_mul_le_mul_right (Int.le_trans (fl_le h0) k.2) h0
  · refine ⟨by have := h.1; omega, ?_⟩
    have nd : ¬ f.2 ∣ f.1 := fun d => b1 (hf.low d)
    have lt : f.1 / f.2 * f.2 < f.1 := by
      rcases Int.lt_or_eq_of_le (fl_le (t := f.1) h0) with z | z
      · exact z
      · exact absurd ⟨f.1 / f.2, by rw [Int.mul_comm]; exact z.symm⟩ nd
    have k := h.keep h0
    have lt2 : f.1 / f.2 * f.2 < u.2.2 * f.2 := by omega
    have := Int.lt_of_mul_lt_mul_right lt2 (by omega)
    omega
theorem div_bd {t b : Int} (h : t.natAbs ≤ 1000) : (t / b).natAbs ≤ 1000 := Nat.le_trans (Int.natAbs_ediv_le_natAbs t b) h
theorem step_bd {f : Fr} (hf : F12 f) {w : Bool × Bool} {g z : Int} (e : rstep f w g = some z) : z.natAbs ≤ 1001 := by
  have h1 := hf.bd
  have h2 := div_bd (b := f.2) h1
  rcases step_cases hf e with ⟨b1, rfl⟩ | ⟨b1, w1, rfl⟩ | ⟨b1, w2, rfl⟩ <;> omega
theorem near_eq {f : Fr} (hf : F12 f) : nearF f = f.1 / f.2 + if decide (f.2 < 2 * (f.1 - f.1 / f.2 * f.2)) = true then 1 else 0 := by
  have h0 := hf.pos
  have a := fl_le (t := f.1) h0
  have b := lt_fl (t := f.1) h0
  rw [Int.add_mul] at b
  unfold nearF
  generalize hq : f.1 / f.2 = q at *
  have e : f.2 - 2 * f.1 = (f.2 - 2 * (f.1 - q * f.2)) + (-q) * (2 * f.2) := by
    have : (-q) * (2 * f.2) = -(2 * (q * f.2)) := by rw [Int.neg_mul, Int.mul_left_comm]
    omega
  rw [e, Int.add_mul_ediv_right _ _ (by omega)]
  by_cases c : f.2 < 2 * (f.1 - q * f.2)
  · rw [if_pos (decide_eq_true c)]
    have : (f.2 - 2 * (f.1 - q * f.2)) / (2 * f.2) = -1 := by
      have h1 : (f.2 - 2 * (f.1 - q * f.2)) = (f.2 - 2 * (f.1 - q * f.2) + 2 * f.2) + (-1) * (2 * f.2) := by omega
      rw [h1, Int.add_mul_ediv_right _ _ (by omega), Int.ediv_eq_zero_of_lt (by omega) (by omega)]; rfl
    omega
  · rw [if_neg (by simpa using c)]
    have : (f.2 - 2 * (f.1 - q * f.2)) / (2 * f.2) = 0 := Int.ediv_eq_zero_of_lt (by omega) (by omega)
    omega
/-- a row that the start keeps -/
structure Good (n : Nat) (st : List Fr) (r : Row) : Prop where
  ok : RowOk n r
  ge : 0 ≤ tot r.am st - 12 * r.bd
  eq : r.eq = true → tot r.am st - 12 * r.bd = 0
theorem good_eq {n : Nat} {st : List Fr} {am : List Int} (l : am.length = n) (ls : st.length = n) (nz : ∃ c ∈ am, c ≠ 0) (b : ∀ c ∈ am, -10 ≤ c ∧ c ≤ 10) : Good n st ⟨am.map (12 * ·), true, tot am st⟩ := by
  refine ⟨⟨by rw [List.length_map]; exact l, ?_, fun c hc => ?_⟩, ?_, fun _ => ?_⟩
  · obtain ⟨c, hc, h0⟩ := nz
    exact ⟨12 * c, List.mem_map_of_mem hc, by omega⟩
  · obtain ⟨d, hd, rfl⟩ := List.mem_map.mp hc
    have := b d hd
    omega
  · show 0 ≤ tot (am.map (12 * ·)) st - 12 * tot am st
    rw [tot_12 (by omega)]; omega
  · show tot (am.map (12 * ·)) st - 12 * tot am st = 0
    rw [tot_12 (by omega)]; omega
theorem good_ge {n : Nat} {st : List Fr} {am : List Int} (l : am.length = n) (nz : ∃ c ∈ am, c ≠ 0) (b : ∀ c ∈ am, -10 ≤ c ∧ c ≤ 10) {d : Int} (h : 0 ≤ d) : Good n st ⟨am, false, tot am st / 12 - d⟩ := by
  refine ⟨⟨l, nz, fun c hc => by have := b c hc; omega⟩, ?_, fun e => by cases e⟩
  show 0 ≤ tot am st - 12 * (tot am st / 12 - d)
  omega
end M56

namespace M56
open PySem PySem.Spec PyProof.Rows L2 SX Own Gd
open C8 (Cal pe_c pe_gc pe_mk Mak pss_cut)
/-! ### integers as data, and shown -/
def dI (a : List Int) : PyData := .tuple (a.map PyData.int)
theorem dpAllI {K : PySem.W.Frag} {H : Hp} : ∀ a : List Int, DpAll K H (a.map V.int) (a.map PyData.int)
  | [] => .nil
  | c :: a => .cons (.int c) (dpAllI a)
theorem dpI {K : PySem.W.Frag} {H : Hp} {q : Addr} {a : List Int} (e : H q = some (tI a)) : Dp K H (.ref q) (dI a) := .tup (sq_tup e) (dpAllI a)
theorem layI : ∀ a : List Int, PyData.canLayAll0 (a.map PyData.int) = true
  | [] => by simp [PyData.canLayAll0]
  | c :: a => by simp [PyData.canLayAll0, PyData.canLay0, layI a]
theorem depI : ∀ a : List Int, PyData.depthAll (a.map PyData.int) ≤ 1
  | [] => by simp [PyData.depthAll]
  | c :: a => by
    have := depI a
    simp only [List.map_cons, PyData.depthAll, PyData.depth]; omega
theorem shpI (a : List Int) : SeqAt.shaped (dI a) = true := by
  have := depI a
  unfold SeqAt.shaped dI
  rw [Bool.and_eq_true]
  refine ⟨by simp only [PyData.canLay0]; exact layI a, decide_eq_true ?_⟩
  simp only [PyData.depth]; omega
def Sh12 (c : Int) : Prop := c.natAbs < 10 ^ 12
/-- data that can be shown -/
structure DS (W : Nat) (d : PyData) : Prop where
  s : d.showable = true
  n : d.hasDict = false
  p : d.depth ≤ 60
  l : d.leavesShort 13 = true
  w : d.weight ≤ W
theorem DS.fits {d : PyData} {W : Nat} (h : DS W d) (hW : W ≤ 1000000) : d.shown.length ≤ sizeLine := PyData.shown_fits (B := 13) (by decide) (by decide) h.l (Nat.le_trans h.w (Nat.le_trans hW (by decide)))
theorem log12 {c : Int} (h : Sh12 c) : c.natAbs.log2 < 40 := PySem.Flt.log2_lt_of (by decide) (Nat.lt_trans h (by decide))
theorem intW {c : Int} (h : Sh12 c) : (PyData.int c).weight ≤ 40 := by
  simp only [PyData.weight]
  have := log12 h
  split <;> omega
theorem intL {c : Int} (h : Sh12 c) : (PyData.int c).leavesShort 13 = true := by
  simp only [PyData.leavesShort]
  exact decide_eq_true (PyData.shown_int_le h)
theorem intsS : ∀ {a : List Int}, (∀ c ∈ a, Sh12 c) → PyData.showableAll (a.map .int) = true ∧ PyData.hasDictAll (a.map .int) = false ∧ PyData.depthAll (a.map .int) = 0 ∧ PyData.leavesShortAll 13 (a.map .int) = true ∧ PyData.weightAll (a.map .int) ≤ 41 * a.length
  | [], _ => by simp [PyData.showableAll, PyData.hasDictAll, PyData.depthAll, PyData.leavesShortAll, PyData.weightAll]
  | c :: a, h => by
    obtain ⟨h1, h2, h3, h4, h5⟩ := intsS (a := a) fun d hd => h d (List.mem_cons_of_mem _ hd)
    have hc := h c (List.mem_cons_self ..)
    have w := intW hc
    have g := log12 hc
    refine ⟨?_, ?_, ?_, ?_, ?_⟩
    · simp only [List.map_cons, PyData.showableAll, PyData.showable, h1, Bool.and_true]; exact decide_eq_true (by omega)
    · simp only [List.map_cons, PyData.hasDictAll, PyData.hasDict, h2, Bool.or_false]
    · simp only [List.map_cons, PyData.depthAll, PyData.depth, h3]; rfl
    · simp only [List.map_cons, PyData.leavesShortAll, intL hc, h4, Bool.and_true]
    · simp only [List.map_cons, PyData.weightAll, List.length_cons]; omega
theorem showD {K : PySem.W.Frag} {H : Hp} {Q : VK} {a : Addr} {d : PyData} {W : Nat} (e : Dp K H (.ref a) d) (h : DS W d) (hW : W ≤ 1000000) (q : Q (.str d.shown) H) : rShow K [.ref a] H Q := ⟨a, d, rfl, e, h.s, h.n, h.p, h.fits hW, q⟩
theorem intsT {a : List Int} (h : ∀ c ∈ a, Sh12 c) (l : a.length ≤ 100) : DS 41100 (dI a) := by
  obtain ⟨h1, h2, h3, h4, h5⟩ := intsS h
  unfold dI
  refine ⟨?_, ?_, ?_, ?_, ?_⟩
  · simp only [PyData.showable, h1]
  · simp only [PyData.hasDict, h2]
  · simp only [PyData.depth, h3]; omega
  · simp only [PyData.leavesShort, h4]
  · simp only [PyData.weight]; omega
/-- repr of a tuple of integers or None -/
def rShowN (K : PySem.W.Frag) : List V → Hp → VK → Prop := fun xs H Q => rShow K xs H Q ∨ (xs = [.non] ∧ Q (.str "None") H)
theorem call_showN {X : Cx} (hgd : X.A.guards = some []) (hu : X.A.units + 64 < cLine) : CallR X (.builtin "repr") (rShowN X.K) := by
  intro pins s σ H xs us Q I r h
  rcases h with h | ⟨rfl, q⟩
  · exact call_show hgd hu pins s σ H xs us Q I r h
  · obtain ⟨u, rfl, r1⟩ := vals1 r
    cases (show u = Value.none from r1)
    exact PySem.P.repr_of_none ⟨.str "None", H, I.tok _, ⟨_, rfl⟩, q⟩
theorem shownI {K : PySem.W.Frag} {H : Hp} {Q : VK} {v : V} {a : List Int} (lv : LV H v a) (h : ∀ c ∈ a, Sh12 c) (l : a.length ≤ 100) (q : Q (.str (dI a).shown) H) : rShowN K [v] H Q := by
  obtain ⟨p, rfl, e⟩ := lv
  exact .inl (showD (dpI e) (intsT h l) (by decide) q)

theorem eqvAllI : ∀ a b : List Int, PyData.eqvAll (a.map PyData.int) (b.map PyData.int) = decide (a = b)
  | [], [] => by simp [PyData.eqvAll]
  | [], _ :: _ => by simp [PyData.eqvAll]
  | _ :: _, [] => by simp [PyData.eqvAll]
  | c :: a, d :: b => by
    simp only [List.map_cons, PyData.eqvAll, PyData.eqv, eqvAllI a b]
    by_cases h : c = d <;> by_cases h2 : a = b <;> simp [h, h2]
theorem eqvI (a b : List Int) : PyData.eqv (dI a) (dI b) = decide (a = b) := by
  unfold dI
  simp only [PyData.eqv, eqvAllI]
theorem eqvL (a b : List Int) : PyData.eqv (.list (a.map PyData.int)) (.list (b.map PyData.int)) = decide (a = b) := by
  simp only [PyData.eqv, eqvAllI]
theorem shpL (ns : List Int) : SeqAt.shaped (.list (ns.map PyData.int)) = true := PySem.W.ke_shaped_ints ns
/-- pairs of truths as data, and shown -/
def dB (l : List (Bool × Bool)) : PyData := .tuple (l.map fun x => .tuple [.bool x.1, .bool x.2])
theorem dpB {K : PySem.W.Frag} {H : Hp} : ∀ {us : List V} {l : List (Bool × Bool)}, All2 (PB H) us l → DpAll K H us (l.map fun x => .tuple [.bool x.1, .bool x.2])
  | _, _, .nil => .nil
  | _, _, .cons ⟨p, e, h⟩ t => by rw [e]; exact .cons (.tup (sq_tup h) (.cons (.bl _) (.cons (.bl _) .nil))) (dpB t)
theorem bools : ∀ l : List (Bool × Bool), PyData.showableAll (l.map fun x => .tuple [.bool x.1, .bool x.2]) = true ∧ PyData.hasDictAll (l.map fun x => .tuple [.bool x.1, .bool x.2]) = false ∧ PyData.depthAll (l.map fun x => .tuple [.bool x.1, .bool x.2]) ≤ 2 ∧ PyData.leavesShortAll 13 (l.map fun x => .tuple [.bool x.1, .bool x.2]) = true ∧ PyData.weightAll (l.map fun x => .tuple [.bool x.1, .bool x.2]) ≤ 3 * l.length
  | [] => by simp [PyData.showableAll, PyData.hasDictAll, PyData.depthAll, PyData.leavesShortAll, PyData.weightAll]
  | c :: a => by
    obtain ⟨h1, h2, h3, h4, h5⟩ := bools a
    refine ⟨?_, ?_, ?_, ?_, ?_⟩
    · simp [PyData.showableAll, PyData.showable, h1]
    · simp [PyData.hasDictAll, PyData.hasDict, h2]
    · simp only [List.map_cons, PyData.depthAll, PyData.depth]; omega
    · simp [PyData.leavesShortAll, PyData.leavesShort, h4]
    · simp only [List.map_cons, PyData.weightAll, PyData.weight, List.length_cons]; omega
theorem boolsT {l : List (Bool × Bool)} (h : l.length ≤ 100) : DS 41100 (dB l) := by
  obtain ⟨h1, h2, h3, h4, h5⟩ := bools l
  unfold dB
  refine ⟨?_, ?_, ?_, ?_, ?_⟩
  · simp only [PyData.showable, h1]
  · simp only [PyData.hasDict, h2]
  · simp only [PyData.depth]; omega
  · simp only [PyData.leavesShort, h4]
  · simp only [PyData.weight]; omega
theorem shownB {K : PySem.W.Frag} {H : Hp} {Q : VK} {p : Addr} {us : List V} {l : List (Bool × Bool)} (e : H p = some (.tup us)) (al : All2 (PB H) us l) (h : l.length ≤ 100) (q : Q (.str (dB l).shown) H) : rShow K [.ref p] H Q :=
  showD (.tup (sq_tup e) (dpB al)) (boolsT h) (by decide) q
/-- an expression's reading, cut -/
def tCutE (te : TE) : TE := fun σ H Q => ∃ M : V → Hp → Prop, te σ H M ∧ ∀ v H', M v H' → Q v H'
theorem pe_cut {X : Cx} {e : Expr} {te : TE} (h : PE X e te) : PE X e (tCutE te) := by
  refine ⟨fun pins s σ H Q I hq => ?_⟩
  obtain ⟨M, hM, k⟩ := hq
  exact thn (h.run pins s σ H M I hM) fun v s1 ⟨x, H1, I1, r1, q1⟩ => ⟨x, H1, I1, r1, k _ _ q1⟩
section
variable {P : Program} {w : World} {K : PySem.W.Frag} {mg : Str → Option Value} {base : Heap} {aW aT : Addr} {es : Array DictEntry} {nn : Nat}
abbrev s_Lrow : Stmt := topS 42
abbrev n_Lrow : List Str := ["deal", "kinds", "start", "equal", "amounts", "kind", "size", "total", "amount"]
theorem sc_Lrow : FnScope n_Lrow ["deal", "kinds", "start"] (defScope s_Lrow) := ⟨rfl, rfl, rfl, by decide +kernel, rfl, by decide +kernel, by decide +kernel⟩
def spLRow : Sp := fun vs H Q _ => ∃ (h q pk : Addr) (sv : V) (kinds : List Int) (st : List Fr), vs = [.ref h, .ref pk, sv] ∧ HpAt H h q ∧ H pk = some (tL kinds) ∧ pk ≠ h ∧ pk ≠ q ∧ SV H sv st ∧ kinds.length = st.length ∧ st.length ≤ 10 ∧ (∀ f ∈ st, F12 f) ∧
  (∀ H', HpAt H' h q → Kpt h q H H' → Q .non H') ∧ ∀ H' v r, RV H' v r → Good st.length st r → HpAt H' h q → Kpt h q H H' → Q v H'
theorem ok_Lrow {f : Addr} {fd : FuncData} (F : Fun K "_law_row" "_law_row" s_Lrow f fd) (T : Txt K mg w aW aT es nn) (c_Lany : Cal P w K mg base 1 "_law_any" spDraw []) (c_Lof : Cal P w K mg base 2 "_law_of" spPickL []) (c_Ltotal : Cal P w K mg base 1 "_law_total" spTot []) : FnOk P w K mg base CX0 3 f fd ["deal", "kinds", "start"] spLRow := by
  refine F.ok sc_Lrow (fun vs H Q E h => ?_) (fun cdv A outer s H vs Q E hr h => ?_)
  · obtain ⟨h, q, pk, sv, kinds, st, rfl, _⟩ := h
    rfl
  · obtain ⟨h, q, pk, sv, kinds, st, rfl, a0, hpk, ph, pq, sv0, lk, l10, ok, fin1, fin2⟩ := h
    refine ⟨_, (pss_cons (ps_set (i := 3) sc_Lrow.nd rfl (.inl rfl) (pe_cmpR op_eq (pe_c c_Lany hr (by decide) (by rfl) (pa_cons (pv 0) (pa_cons pe_int pa_nil))) pe_int (nomark _)))
      (pss_cons (ps_set (i := 4) sc_Lrow.nd rfl (.inl rfl) (pe_lst pa_nil))
      (pss_cons (ps_for PassesOwn.never rfl (pi_list (pv 1)) (pg_name (i := 5) sc_Lrow.nd rfl (.inl rfl)) (pss_cons (ps_set (i := 6) sc_Lrow.nd rfl (.inl rfl) (pe_c c_Lany hr (by decide) (by rfl) (pa_cons (pv 0) (pa_cons pe_int pa_nil))))
        (pss_one (ps_if (PW.pt (pw_or (pt_cmpR op_eq (pv 5) pe_int (nomark _)) (pw_or1 (PW.pt (pw_and (pt_val (pv 3)) (pw_and1 (pt_cmpR op_lt (pv 5) pe_int (nomark _)))))))) (pss_one (ps_expr (pe_bm PySem.F.plainAttrs_list PySem.F.slot_list_append PySem.F.type_list_append mt_append (pv 4) (pa_cons pe_int pa_nil)))) (pss_one (ps_if (pt_cmpR op_eq (pv 5) pe_int (nomark _)) (pss_one (ps_expr (pe_bm PySem.F.plainAttrs_list PySem.F.slot_list_append PySem.F.type_list_append mt_append (pv 4) (pa_cons (pe_c c_Lof hr (by decide) (by rfl) (pa_cons (pv 0) (pa_cons (pe_lst (pa_cons (pv 6) (pa_cons (pe_un un_neg (pv 6)) pa_nil))) pa_nil))) pa_nil)))) (pss_one (ps_expr (pe_bm PySem.F.plainAttrs_list PySem.F.slot_list_append PySem.F.type_list_append mt_append (pv 4) (pa_cons (pe_ifExp (pt_cmpR op_eq (pv 5) pe_int (nomark _)) (pv 6) (pe_un un_neg (pv 6))) pa_nil))))))))))
      (pss_cons (ps_if (pt_cmpR (op_eqD hr.units) (pv 4) (pe_op op_rep (pe_lst (pa_cons pe_int pa_nil)) (pe_callB call_len_seq (by rfl) T.b_len (by decide +kernel) (pa_cons (pv 1) pa_nil))) (nomark _)) (pss_one (ps_ret pe_non)) pss_nil)
      (pss_cons (ps_set (i := 7) sc_Lrow.nd rfl (.inl rfl) (pe_c c_Ltotal hr (by decide) (by rfl) (pa_cons (pv 4) (pa_cons (pv 2) pa_nil))))
      (pss_cons (ps_if (pt_val (pv 3)) (pss_one (ps_ret (pe_tup (pa_cons pe_str (pa_cons (pe_callTy call_tuple_of (by rfl) T.b_tuple (by decide +kernel) (pa_cons (pe_lc (own := [("amount", 8)]) rfl sc_Lrow.nd (pi_list (pv 4)) (blkOk_by (N := n_Lrow) (sc := defScope s_Lrow) (by decide +kernel)) (fun _ _ _ _ _ => (pg_name (i := 8) sc_Lrow.nd rfl (.inl rfl))) (fun _ _ _ _ _ => pts_nil) (fun _ _ _ _ _ => (pe_op op_mul pe_int (pv 8)))) pa_nil)) (pa_cons pe_bl (pa_cons (pv 7) pa_nil))))))) pss_nil)
      (pss_one (ps_ret (pe_tup (pa_cons pe_str (pa_cons (pe_callTy call_tuple_of (by rfl) T.b_tuple (by decide +kernel) (pa_cons (pv 4) pa_nil)) (pa_cons pe_bl (pa_cons (pe_op op_sub (pe_op op_fdiv (pv 7) pe_int) (pe_c c_Lany hr (by decide) (by rfl) (pa_cons (pv 0) (pa_cons pe_int pa_nil)))) pa_nil))))))))))))), ?_⟩
    refine ⟨_, rfl, h, q, 4, rfl, a0, by decide, by decide, fun d H1 d0 d1 a1 kp1 => ⟨rfl, ?_⟩⟩
    generalize (decide (V.int d = V.int 0)) = eqb
    refine ⟨nil_ok, fun l nl => ?_⟩
    obtain ⟨l1, l2⟩ := a1.fresh nl
    have nlH := kp1.free nl l1 l2
    have hpk1 := kp1 _ _ hpk ph pq
    have pkl : pk ≠ l := ne_of_none hpk1 nl
    refine ⟨_, rfl, pk, rfl, ⟨_, sq_lst (same_upd nl _ _ hpk1)⟩, for_list (K := K) (a := pk) (xs := kinds.map V.int) (fun i σ H' => ∃ y5 y6 am, σ = [some (.ref h), some (.ref pk), some sv, some (.bl eqb), some (.ref l), y5, y6, none, none] ∧ HpAt H' h q ∧ Kpt h q H H' ∧ H' l = some (tL am) ∧ am.length = i ∧ ∀ c ∈ am, -10 ≤ c ∧ c ≤ 10)
      ⟨none, none, [], rfl, a1.upd l1 l2, kp1.trans (.of_same (same_upd nl)), upd_same, rfl, by simp⟩ (fun i σ H' _ h => by obtain ⟨_, _, _, _, _, kp, _⟩ := h; exact sq_lst (kp _ _ hpk ph pq)) (fun i v σ H2 hv h => ?_) (fun σ H2 h => ?_)⟩
    · obtain ⟨y5, y6, am, rfl, a, kp, el, la, ba⟩ := h
      obtain ⟨kd, hkd, rfl⟩ := at_map hv
      have hi : i < kinds.length := (List.getElem?_eq_some_iff.mp hkd).1
      refine ⟨_, rfl, h, q, 5, rfl, a, by decide, by decide, fun sz H3 s0 s1 a3 kp3 => ?_⟩
      have el3 := kp3 _ _ el l1 l2
      have kp13 := kp.trans kp3
      have app : ∀ (c : Int) (H4 : Hp) (y5 y6 : Option V), -10 ≤ c ∧ c ≤ 10 → HpAt H4 h q → Kpt h q H H4 → H4 l = some (tL am) → (fun σ H' => ∃ y5 y6 am, σ = [some (.ref h), some (.ref pk), some sv, some (.bl eqb), some (.ref l), y5, y6, none, none] ∧ HpAt H' h q ∧ Kpt h q H H' ∧ H' l = some (tL am) ∧ am.length = i + 1 ∧ ∀ c ∈ am, -10 ≤ c ∧ c ≤ 10)
          [some (.ref h), some (.ref pk), some sv, some (.bl eqb), some (V.ref l), y5, y6, none, none] (upd H4 l (.lst (am.map V.int ++ [.int c]))) := fun c H4 y5 y6 bc a4 kp4 el4 => by
        refine ⟨y5, y6, am ++ [c], rfl, a4.upd l1 l2, kp4.at_new nlH, ?_, by rw [List.length_append, la]; rfl, fun x hx => ?_⟩
        · rw [upd_same]
          show some (HO.lst _) = some (HO.lst ((am ++ [c]).map V.int))
          rw [List.map_append]; rfl
        · rcases List.mem_append.mp hx with z | z
          · exact ba x z
          · rw [List.mem_singleton.mp z]; exact bc
      have sm : (am.map V.int).length < sizeLine := small1000 (by rw [List.length_map]; omega)
      by_cases k2 : kd = 2
      · exact ⟨_, rfl, rfl, _, rfl, ite2 (fun _ => iteT ⟨_, rfl, .inl ⟨rfl, _, sq_lst el3⟩, l, _, _, rfl, rfl, el3, sm, app 0 _ _ _ (by omega) a3 kp13 el3⟩) (fun h => absurd (by simp [k2]) h)⟩
      refine ⟨_, rfl, rfl, _, rfl, ite2 (fun h => absurd (by simpa using h) k2) (fun _ => ?_)⟩
      by_cases c2 : eqb = true ∧ kd < 2
      · obtain ⟨rfl, c2⟩ := c2
        exact ⟨_, rfl, true, rfl, iteT ⟨_, rfl, _, _, rfl, rfl, _, rfl, ite2 (fun _ => ⟨_, rfl, .inl ⟨rfl, _, sq_lst el3⟩, l, _, _, rfl, rfl, el3, sm, app 0 _ _ _ (by omega) a3 kp13 el3⟩) (fun h => absurd (decide_eq_true c2) h)⟩⟩
      cases eqb with
      | false =>
        refine ⟨_, rfl, false, rfl, iteF (iteF ?_)⟩
        by_cases k3 : kd = 3
        · refine ⟨_, rfl, rfl, _, rfl, ite2 (fun _ => ?_) (fun h => absurd (by simp [k3]) h)⟩
          refine ⟨_, rfl, .inl ⟨rfl, _, sq_lst el3⟩, _, rfl, _, rfl, _, rfl, _, rfl, len2, fun p np => ?_⟩
          have k1 := same_upd (o := .lst [.int sz, .int (-sz)]) np
          obtain ⟨f1, f2⟩ := a3.fresh np
          refine ⟨h, q, p, _, rfl, a3.same k1, upd_same, f1, f2, by simp, by show 2 ≤ 1000; decide, fun v H4 m a4 kp4 => ?_⟩
          have kp34 := (Kpt.of_same (h := h) (q := q) k1).trans kp4
          have el4 := kp34 _ _ el3 l1 l2
          obtain ⟨c, rfl, bc⟩ : ∃ c, v = V.int c ∧ -10 ≤ c ∧ c ≤ 10 := by
            rcases List.mem_cons.mp m with e | e
            · exact ⟨sz, e, by omega, by omega⟩
            · exact ⟨-sz, List.mem_singleton.mp e, by omega, by omega⟩
          exact ⟨l, _, _, rfl, rfl, el4, sm, app c _ _ _ bc a4 (kp13.trans kp34) el4⟩
        · refine ⟨_, rfl, rfl, _, rfl, ite2 (fun h => absurd (by simpa using h) k3) (fun _ => ?_)⟩
          exact ⟨_, rfl, .inl ⟨rfl, _, sq_lst el3⟩, _, rfl, rfl, _, rfl, ite2 (fun _ => ⟨_, rfl, l, _, _, rfl, rfl, el3, sm, app sz _ _ _ (by omega) a3 kp13 el3⟩) (fun _ => ⟨_, rfl, _, rfl, l, _, _, rfl, rfl, el3, sm, app (-sz) _ _ _ (by omega) a3 kp13 el3⟩)⟩
      | true =>
        refine ⟨_, rfl, true, rfl, iteT ⟨_, rfl, _, _, rfl, rfl, _, rfl, ite2 (fun h => absurd ⟨rfl, of_decide_eq_true h⟩ c2) (fun _ => ?_)⟩⟩
        by_cases k3 : kd = 3
        · refine ⟨_, rfl, rfl, _, rfl, ite2 (fun _ => ?_) (fun h => absurd (by simp [k3]) h)⟩
          refine ⟨_, rfl, .inl ⟨rfl, _, sq_lst el3⟩, _, rfl, _, rfl, _, rfl, _, rfl, len2, fun p np => ?_⟩
          have k1 := same_upd (o := .lst [.int sz, .int (-sz)]) np
          obtain ⟨f1, f2⟩ := a3.fresh np
          refine ⟨h, q, p, _, rfl, a3.same k1, upd_same, f1, f2, by simp, by show 2 ≤ 1000; decide, fun v H4 m a4 kp4 => ?_⟩
          have kp34 := (Kpt.of_same (h := h) (q := q) k1).trans kp4
          have el4 := kp34 _ _ el3 l1 l2
          obtain ⟨c, rfl, bc⟩ : ∃ c, v = V.int c ∧ -10 ≤ c ∧ c ≤ 10 := by
            rcases List.mem_cons.mp m with e | e
            · exact ⟨sz, e, by omega, by omega⟩
            · exact ⟨-sz, List.mem_singleton.mp e, by omega, by omega⟩
          exact ⟨l, _, _, rfl, rfl, el4, sm, app c _ _ _ bc a4 (kp13.trans kp34) el4⟩
        · refine ⟨_, rfl, rfl, _, rfl, ite2 (fun h => absurd (by simpa using h) k3) (fun _ => ?_)⟩
          exact ⟨_, rfl, .inl ⟨rfl, _, sq_lst el3⟩, _, rfl, rfl, _, rfl, ite2 (fun _ => ⟨_, rfl, l, _, _, rfl, rfl, el3, sm, app sz _ _ _ (by omega) a3 kp13 el3⟩) (fun _ => ⟨_, rfl, _, rfl, l, _, _, rfl, rfl, el3, sm, app (-sz) _ _ _ (by omega) a3 kp13 el3⟩)⟩
    · obtain ⟨y5, y6, am, rfl, a, kp, el, la, ba⟩ := h
      rw [List.length_map] at la
      have hpk2 := kp _ _ hpk ph pq
      refine ⟨_, rfl, len1, fun p1 np1 => ?_⟩
      have k1 := same_upd (o := .lst [.int 0]) np1
      refine ⟨_, rfl, pk, _, rfl, .inl (sq_lst (k1 _ _ hpk2)), p1, _, _, rfl, rfl, upd_same, by omega, by rw [List.length_map]; omega, by rw [sizeLine_eq, List.length_map]; simp; omega, fun p2 np2 => ?_⟩
      have k2 := k1.trans (same_upd (o := .lst (List.replicate (((kinds.map V.int).length : Nat) : Int).toNat [V.int 0]).flatten) np2)
      have e2 : upd (upd H2 p1 (.lst [.int 0])) p2 (.lst (List.replicate (((kinds.map V.int).length : Nat) : Int).toNat [V.int 0]).flatten) p2 = some (tL (List.replicate kinds.length 0)) := by
        rw [upd_same, repf, Int.toNat_natCast, List.length_map]
        unfold tL
        rw [List.map_replicate]
      generalize upd (upd H2 p1 (.lst [.int 0])) p2 (.lst (List.replicate (((kinds.map V.int).length : Nat) : Int).toNat [V.int 0]).flatten) = H3 at *
      have a3 := a.same k2
      have kp3 := kp.trans (.of_same (h := h) (q := q) k2)
      have el3 := k2 _ _ el
      refine ⟨.list (am.map PyData.int), .list ((List.replicate kinds.length (0 : Int)).map PyData.int), .lst (sq_lst el3) (dp_ints am), .lst (sq_lst e2) (dp_ints _), shpL _, shpL _, _, rfl, ?_⟩
      rw [eqvL]
      by_cases z : am = List.replicate kinds.length 0
      · rw [decide_eq_true z]
        exact iteT (fin1 _ a3 kp3)
      rw [decide_eq_false z]
      have nz : ∃ c ∈ am, c ≠ 0 := Classical.byContradiction fun n => z (List.eq_replicate_iff.mpr ⟨la, fun c hc => Classical.byContradiction fun m => n ⟨c, hc, m⟩⟩)
      have tk0 : TK H H3 := TK.kp kp3 a0
      have bf : ∀ f ∈ st, 0 < f.2 ∧ f.2 ≤ 12 := fun f hf => ⟨(ok f hf).pos, (ok f hf).le⟩
      refine iteF ⟨_, rfl, _, rfl, .ref l, sv, am, st, rfl, ⟨l, rfl, .inl el3⟩, (sv0.tk tk0).sa, by omega, by omega, (fun c hc => by have := ba c hc; omega), bf, fun H4 s4 => ?_⟩
      have el4 := s4 _ _ el3
      have a4 := a3.same s4
      have kp4 := kp3.trans (.of_same (h := h) (q := q) s4)
      cases eqb with
      | true =>
        refine ⟨_, rfl, true, rfl, iteT ⟨_, rfl, l, rfl, ⟨_, sq_lst el4⟩, fun D nD => ?_⟩⟩
        refine lc_list (K := K) (a := l) (xs := am.map V.int) (fun i H' => H' D = some (.lst (((am.take i).map (12 * ·)).map V.int)) ∧ Same H4 H') ⟨upd_same, same_upd nD⟩ (fun i H' _ h => sq_lst (h.2 _ _ el4)) ?_ ?_
        · rintro i v H5 hv ⟨hD, sm⟩
          obtain ⟨c, hc, rfl⟩ := at_map hv
          have li : i < am.length := (List.getElem?_eq_some_iff.mp hc).1
          refine ⟨rfl, _, rfl, _, _, rfl, rfl, .inl ⟨by decide, by decide⟩, _, hD, small1000 (by rw [List.length_map, List.length_map, List.length_take]; omega), ?_, same_at sm nD⟩
          rw [upd_same, take_one hc, List.map_append, List.map_append]; rfl
        · rintro H5 ⟨hD, sm⟩
          rw [List.length_map, List.take_length] at hD
          refine ⟨D, _, rfl, .inl ⟨sq_lst hD, fun q1 nq1 => ?_⟩⟩
          have k5 := same_upd (o := .tup ((am.map (12 * ·)).map V.int)) nq1
          refine ⟨_, rfl, len4, fun t nt => ?_⟩
          have k6 := same_upd (o := .tup [.str "sum", .ref q1, .bl true, .int (tot am st)]) nt
          have k46 := (sm.trans k5).trans k6
          exact fin2 _ (.ref t) ⟨am.map (12 * ·), true, tot am st⟩ ⟨t, q1, rfl, upd_same, k6 _ _ upd_same⟩ (good_eq (by omega) rfl nz ba) (a4.same k46) (kp4.trans (.of_same k46))
      | false =>
        refine ⟨_, rfl, false, rfl, iteF ⟨_, rfl, l, _, rfl, .inl ⟨sq_lst el4, fun q1 nq1 => ?_⟩⟩⟩
        have k5 := same_upd (o := .tup (am.map V.int)) nq1
        refine ⟨_, rfl, _, _, rfl, rfl, ⟨by decide, by decide⟩, _, rfl, h, q, 3, rfl, a4.same k5, by decide, by decide, fun d5 H5 d50 d51 a5 kp5 => ?_⟩
        have e5 : H5 q1 = some (tI am) := TK.kp kp5 (a4.same k5) _ _ upd_same
        refine ⟨_, _, rfl, rfl, len4, fun t nt => ?_⟩
        have k6 := same_upd (o := .tup [.str "sum", .ref q1, .bl false, .int (tot am st / 12 - d5)]) nt
        exact fin2 _ (.ref t) ⟨am, false, tot am st / 12 - d5⟩ ⟨t, q1, rfl, upd_same, k6 _ _ e5⟩ (good_ge (by omega) nz ba d50) (a5.same k6) (((kp4.trans (.of_same k5)).trans kp5).trans (.of_same k6))
end
end M56

namespace M56
open PySem PySem.Spec PyProof.Rows L2 SX Own Gd
open C8 (Cal pe_c pe_gc pe_mk Mak pss_cut)
theorem wvs_app {H : Hp} : ∀ {us us' : List V} {wl wl' : List Wish}, WVs H us wl → WVs H us' wl' → WVs H (us ++ us') (wl ++ wl')
  | _, _, _, _, .nil, h => h
  | _, _, _, _, .cons g t, h => .cons g (wvs_app t h)
theorem wvs_rows {H : Hp} : ∀ {us : List V} {rl : List Row}, All2 (RV H) us rl → WVs H us (rl.map .sum)
  | _, _, .nil => .nil
  | _, _, .cons h t => .cons (show WV H _ (.sum _) from h) (wvs_rows t)
theorem cat_w {K : PySem.W.Frag} {H : Hp} {p1 p2 : Addr} {us1 us2 : List V} {wl1 wl2 : List Wish} {Q : VK} (h1 : H p1 = some (.tup us1)) (h2 : H p2 = some (.tup us2)) (w1 : WVs H us1 wl1) (w2 : WVs H us2 wl2) (l : us1.length + us2.length ≤ 1000)
    (q : ∀ p ws H', Same H H' → H' p = some (.tup ws) → WVs H' ws (wl1 ++ wl2) → Q (.ref p) H') : rCatA K (.ref p1) (.ref p2) H Q := by
  refine ⟨p1, p2, us1, us2, rfl, rfl, sq_tup h1, sq_tup h2, by rw [sizeLine_eq]; omega, fun e => ?_, fun _ e => ?_, fun _ _ p np => ?_⟩
  · subst e
    cases w1
    exact q p2 us2 H (Same.refl _) h2 w2
  · subst e
    cases w2
    exact q p1 us1 H (Same.refl _) h1 (by rw [List.append_nil]; exact w1)
  · have k := same_upd (o := .tup (us1 ++ us2)) np
    exact q p _ _ k upd_same (wvs_app (w1.same k) (w2.same k))
/-- other wishes in a tuple -/
def OV (H : Hp) (v : V) (wl : List Wish) : Prop := ∃ p us, v = .ref p ∧ H p = some (.tup us) ∧ WVs H us wl
theorem OV.tk {H H' : Hp} {v : V} {wl : List Wish} (h : OV H v wl) (s : TK H H') : OV H' v wl := by
  obtain ⟨p, us, e, f, g⟩ := h
  exact ⟨p, us, e, s _ _ f, g.tk s⟩
theorem eqvE : PyData.eqv (.list []) (.list []) = true := by simp [PyData.eqv, PyData.eqvAll]
/-- what the law's check of a task wants -/
structure Want (ul : List Unk) (rl : List Row) (ow : List Wish) (goal : List Int) (st : List Fr) : Prop where
  u : UnkOk ul
  l10 : ul.length ≤ 10
  r20 : rl.length ≤ 20
  o5 : ow.length ≤ 5
  os : sumsOf ow = []
  ok : ∀ x ∈ ow, WishOk ul.length x
  lst : st.length = ul.length
  lg : goal.length = ul.length
  f : ∀ f ∈ st, F12 f
  un : ∀ (k : Nat) u f, ul[k]? = some u → st[k]? = some f → UN u f
  good : ∀ r ∈ rl, Good ul.length st r
theorem Want.pts {ul : List Unk} {rl : List Row} {ow : List Wish} {goal : List Int} {st : List Fr} (W : Want ul rl ow goal st) {l : List Int} (e : rndN (rsOf st rl goal) ul.length = some l) :
    (∀ (k : Nat) u f, ul[k]? = some u → (ptsOf l)[k]? = some f → u.2.1 * f.2 ≤ f.1 ∧ f.1 ≤ u.2.2 * f.2) ∧ (∀ r ∈ rl, 0 ≤ tot r.am (ptsOf l) - 12 * r.bd ∧ (r.eq = true → tot r.am (ptsOf l) - 12 * r.bd = 0)) ∧ (∀ r ∈ rl, tot r.am st ≤ tot r.am (ptsOf l)) ∧ l.length = ul.length ∧ (∀ c ∈ l, c.natAbs ≤ 1001) := by
  have ll := rndN_len e
  have e' := e
  rw [← W.lst] at e'
  have at_ : ∀ k z, l[k]? = some z → ∃ f, st[k]? = some f ∧ F12 f ∧ rstep f (ways rl k) (goal.getD k 0) = some z := fun k z hz => by
    have hk : k < ul.length := by have := (List.getElem?_eq_some_iff.mp hz).1; omega
    obtain ⟨z', h1, h2⟩ := rndN_at e k hk
    rw [hz] at h2
    cases h2
    have hf : st[k]? = some (st[k]'(by have := W.lst; omega)) := List.getElem?_eq_getElem _
    refine ⟨_, hf, W.f _ (List.mem_of_getElem? hf), ?_⟩
    unfold rsOf at h1
    rw [getD_of hf] at h1
    exact h1
  refine ⟨fun k u f hu hf => ?_, fun r hr => ?_, fun r hr => (tot_round W.f hr e').1, ll, fun c hc => ?_⟩
  · unfold ptsOf at hf
    rw [List.getElem?_map] at hf
    obtain ⟨z, hz, rfl⟩ := Option.map_eq_some_iff.mp hf
    obtain ⟨f, h1, h2, h3⟩ := at_ k z hz
    have := (W.un k u f hu h1).pt h2 h3
    show u.2.1 * 1 ≤ z ∧ z ≤ u.2.2 * 1
    omega
  · obtain ⟨t1, t2⟩ := tot_round W.f hr e'
    have g := W.good r hr
    refine ⟨by have := g.ge; omega, fun q => by have := g.eq q; have := t2 q; omega⟩
  · obtain ⟨k, hk, ek⟩ := List.getElem_of_mem hc
    obtain ⟨f, h1, h2, h3⟩ := at_ k c (by rw [List.getElem?_eq_getElem hk, ek])
    exact step_bd h2 h3
section
variable {P : Program} {w : World} {K : PySem.W.Frag} {mg : Str → Option Value} {base : Heap} {aW aT : Addr} {es : Array DictEntry} {nn : Nat}
abbrev s_Lright : Stmt := topS 46
abbrev n_Lright : List Str := ["unknowns", "rows", "others", "goal", "start", "task", "due", "told", "point", "one", "row", "k"]
theorem sc_Lright : FnScope n_Lright ["unknowns", "rows", "others", "goal", "start"] (defScope s_Lright) := ⟨rfl, rfl, rfl, by decide +kernel, rfl, by decide +kernel, by decide +kernel⟩
def spRight : Sp := fun vs H Q _ => ∃ (uv rv ov gv sv : V) (ul : List Unk) (rl : List Row) (ow : List Wish) (goal : List Int) (st : List Fr), vs = [uv, rv, ov, gv, sv] ∧ UsV H uv ul ∧ RsV H rv rl ∧ OV H ov ow ∧ LV H gv goal ∧ SV H sv st ∧ Want ul rl ow goal st ∧ ∀ H', Same H H' → Q (.bl true) H'
theorem ok_Lright {f C : Addr} {fd : FuncData} (F : Fun K "_law_right" "_law_right" s_Lright f fd) (T : Txt K mg w aW aT es nn) (m_Task : Mak P w K mg base 8 "Task" C (spTask C) []) (k_free_ways_task : CalK P w K mg base 2 "free_ways" ["task"] id (spFree C)) (c_Lways : Cal P w K mg base 1 "_law_ways" spLWays []) (c_Lrounded : Cal P w K mg base 2 "_law_rounded" spLRnd []) (k_rounded_by_signs_start_task : CalK P w K mg base 3 "rounded_by_signs" ["start", "task"] sw (spRnd C)) (c_Lkeeps : Cal P w K mg base 2 "_law_keeps" spKeeps []) (c_Ltotal : Cal P w K mg base 1 "_law_total" spTot []) :
    FnG P w K mg base CX0 10 f fd ["unknowns", "rows", "others", "goal", "start"] spRight := by
  refine fun_okG F sc_Lright (fun vs H Q E h => ?_) (fun cdv A outer s H vs Q E hgd hr h => ?_)
  · obtain ⟨uv, rv, ov, gv, sv, ul, rl, ow, goal, st, rfl, _⟩ := h
    rfl
  · obtain ⟨uv, rv, ov, gv, sv, ul, rl, ow, goal, st, rfl, us0, rs0, ov0, lg0, sv0, W, fin⟩ := h
    obtain ⟨pu, us, rfl, hpu, uvs⟩ := id us0
    obtain ⟨pr, rs, rfl, hpr, rvs⟩ := id rs0
    obtain ⟨po, os, rfl, hpo, ovs⟩ := id ov0
    obtain ⟨pg, rfl, hpg⟩ := id lg0
    obtain ⟨ps, fs, rfl, hps, fvs⟩ := id sv0
    have lu := uvs.len
    have lr := rvs.len
    have lo := ovs.len
    have lf := fvs.len
    obtain ⟨w1, w2, w3, w4, w5, w6, w7, w8, w9, w10, w11⟩ := id W
    refine ⟨_, (pss_cons (ps_set (i := 5) sc_Lright.nd rfl (.inl rfl) (pe_mk m_Task hr (by decide) (by rfl) (pa_cons (pv 0) (pa_cons (pe_cut (pe_ifExp (pt_cmpR op_gt (pe_callB call_len_seq (by rfl) T.b_len (by decide +kernel) (pa_cons (pv 1) pa_nil)) pe_int (nomark _)) (pe_op op_catA (pv 1) (pv 2)) (pe_op op_catA (pv 2) (pv 1)))) (pa_cons (pv 3) pa_nil)))))
      (pss_cons (ps_if (pt_cmpR op_ne (pe_callB (call_show hgd hr.units) (by rfl) T.b_repr (by decide +kernel) (pa_cons (pe_kw k_free_ways_task hr (by decide) (by rfl) (pk_cons (pv 5) pk_nil)) pa_nil)) (pe_callB (call_show hgd hr.units) (by rfl) T.b_repr (by decide +kernel) (pa_cons (pe_callTy call_tuple_of (by rfl) T.b_tuple (by decide +kernel) (pa_cons (pe_lc (own := [("k", 11)]) rfl sc_Lright.nd (pi_range1 (by rfl) T.b_range (pa_cons (pe_callB call_len_seq (by rfl) T.b_len (by decide +kernel) (pa_cons (pv 0) pa_nil)) pa_nil)) (blkOk_by (N := n_Lright) (sc := defScope s_Lright) (by decide +kernel)) (fun _ _ _ _ _ => (pg_name (i := 11) sc_Lright.nd rfl (.inl rfl))) (fun _ _ _ _ _ => pts_nil) (fun _ _ _ _ _ => (pe_c c_Lways hr (by decide) (by rfl) (pa_cons (pv 1) (pa_cons (pv 11) pa_nil))))) pa_nil)) pa_nil)) (nomark _)) (pss_one (ps_ret pe_bl)) pss_nil)
      (pss_cons (ps_par (i := 6) (j := 7) (by rfl) sc_Lright.nd rfl rfl (by decide) rfl rfl (pa_cons (pe_c c_Lrounded hr (by decide) (by rfl) (pa_cons (pv 0) (pa_cons (pv 1) (pa_cons (pv 3) (pa_cons (pv 4) pa_nil))))) (pa_cons (pe_kw k_rounded_by_signs_start_task hr (by decide) (by rfl) (pk_cons (pv 4) (pk_cons (pv 5) pk_nil))) pa_nil)) (by rfl))
      (pss_cons (ps_if (pt_cmpR op_ne (pe_callB (call_showN hgd hr.units) (by rfl) T.b_repr (by decide +kernel) (pa_cons (pv 7) pa_nil)) (pe_callB (call_showN hgd hr.units) (by rfl) T.b_repr (by decide +kernel) (pa_cons (pv 6) pa_nil)) (nomark _)) (pss_one (ps_ret pe_bl)) pss_nil)
      (pss_cons (ps_if (pt_cmpR op_isN (pv 6) pe_non (nomark _)) (pss_one (ps_ret pe_bl)) pss_nil)
      (pss_cons (ps_set (i := 8) sc_Lright.nd rfl (.inr rfl) (pe_lc (own := [("one", 9)]) rfl sc_Lright.nd (pi_tup (pv 7)) (blkOk_by (N := n_Lright) (sc := defScope s_Lright) (by decide +kernel)) (fun _ _ _ _ _ => (pg_name (i := 9) sc_Lright.nd rfl (.inl rfl))) (fun _ _ _ _ _ => pts_nil) (fun _ _ _ _ _ => (pe_tup (pa_cons (pv 9) (pa_cons pe_int pa_nil))))))
      (pss_cons (ps_if (pt_not (pt_val (pe_c c_Lkeeps hr (by decide) (by rfl) (pa_cons (pv 0) (pa_cons (pv 1) (pa_cons (pv 8) pa_nil)))))) (pss_one (ps_ret pe_bl)) pss_nil)
      (pss_one (ps_ret (pe_cmpR (op_eqD hr.units) (pe_lc (own := [("row", 10)]) rfl sc_Lright.nd (pi_tup (pv 1)) (blkOk_by (N := n_Lright) (sc := defScope s_Lright) (by decide +kernel)) (fun _ _ _ _ _ => (pg_name (i := 10) sc_Lright.nd rfl (.inl rfl))) (fun _ _ _ _ _ => (pts_one (pt_cmpR op_lt (pe_c c_Ltotal hr (by decide) (by rfl) (pa_cons (pe_ix (r := rIxT K) ix_tup (pv 10) pe_int (fun _ _ => rfl)) (pa_cons (pv 8) pa_nil))) (pe_c c_Ltotal hr (by decide) (by rfl) (pa_cons (pe_ix (r := rIxT K) ix_tup (pv 10) pe_int (fun _ _ => rfl)) (pa_cons (pv 4) pa_nil))) (nomark _)))) (fun _ _ _ _ _ => (pv 10))) (pe_lst pa_nil) (nomark _))))))))))), ?_⟩
    refine ⟨_, rfl, fun v H' => ∃ pw ws wl, v = .ref pw ∧ Same H H' ∧ H' pw = some (.tup ws) ∧ WVs H' ws wl ∧ sumsOf wl = rl ∧ (∀ z ∈ wl, WishOk ul.length z) ∧ wl.length ≤ 30, ?_, ?_⟩
    · refine ⟨_, rfl, pr, _, rfl, .inr (sq_tup hpr), _, _, rfl, rfl, _, rfl, ite2 (fun _ => ?_) (fun _ => ?_)⟩
      · refine ⟨_, rfl, _, rfl, cat_w hpr hpo (wvs_rows rvs) ovs (by omega) fun p ws H' s' hp wv => ⟨p, ws, _, rfl, s', hp, wv, ?_, fun z hz => ?_, ?_⟩⟩
        · rw [sumsOf_app, sumsOf_map, w5, List.append_nil]
        · rcases List.mem_append.mp hz with h | h
          · obtain ⟨r, hr', rfl⟩ := List.mem_map.mp h
            exact ⟨(w11 r hr').ok, by omega⟩
          · exact w6 z h
        · rw [List.length_append, List.length_map]; omega
      · refine ⟨_, rfl, _, rfl, cat_w hpo hpr ovs (wvs_rows rvs) (by omega) fun p ws H' s' hp wv => ⟨p, ws, _, rfl, s', hp, wv, ?_, fun z hz => ?_, ?_⟩⟩
        · rw [sumsOf_app, sumsOf_map, w5, List.nil_append]
        · rcases List.mem_append.mp hz with h | h
          · exact w6 z h
          · obtain ⟨r, hr', rfl⟩ := List.mem_map.mp h
            exact ⟨(w11 r hr').ok, by omega⟩
        · rw [List.length_append, List.length_map]; omega
    rintro v H1 ⟨pw, ws, wl, rfl, s1, hpw, wv, esum, wok, wl30⟩
    refine ⟨_, rfl, fun x dx nx ndx nxd => ?_⟩
    have y6 := same_upd (o := .own x) ndx
    have nx6 : upd H1 dx (.own x) x = none := by rw [upd_ne nxd.symm]; exact nx
    have y7 := y6.trans (same_upd (o := .ins C dx []) nx6)
    have z7 : upd (upd H1 dx (.own x)) x (.ins C dx []) x = some (.ins C dx []) := upd_same
    generalize upd (upd H1 dx (.own x)) x (.ins C dx []) = HC at *
    have s17 := s1.trans y7
    refine ⟨x, dx, pu, pw, pg, us, ws, ul, wl, goal, rfl, z7, s17 _ _ hpu, uvs.same s17, y7 _ _ hpw, wv.same y7, s17 _ _ hpg, w1, wok, w8, fun HD sD => ⟨rfl, ?_⟩⟩
    have tBE : Same H1 (upd HD x (.ins C dx [("unknowns", .ref pu), ("wishes", .ref pw), ("goal", .ref pg)])) := same_at (y7.trans sD) nx
    have ex : upd HD x (.ins C dx [("unknowns", .ref pu), ("wishes", .ref pw), ("goal", .ref pg)]) x = some (.ins C dx [("unknowns", .ref pu), ("wishes", .ref pw), ("goal", .ref pg)]) := upd_same
    generalize upd HD x (.ins C dx [("unknowns", .ref pu), ("wishes", .ref pw), ("goal", .ref pg)]) = HE at *
    have sE := s1.trans tBE
    have tv : TaskV C HE (.ref x) ul wl goal := ⟨x, dx, pu, pw, pg, us, ws, rfl, ex, sE _ _ hpu, uvs.same sE, tBE _ _ hpw, wv.same tBE, sE _ _ hpg⟩
    have lam : ∀ r ∈ sumsOf wl, r.am.length = ul.length := fun r hr' => by rw [esum] at hr'; exact (w11 r hr').ok.len
    subst esum
    have rs1 := rs0.tk (.of sE)
    refine ⟨_, rfl, .ref x, ul, wl, goal, rfl, tv, by omega, by omega, lam, fun H2 q2 us2 s2 hq2 al2 => ?_⟩
    have DS0 := boolsT (l := (List.range ul.length).map (ways (sumsOf wl))) (by rw [List.length_map, List.length_range]; omega)
    refine ⟨q2, dB ((List.range ul.length).map (ways (sumsOf wl))), rfl, .tup (sq_tup hq2) (dpB al2), DS0.s, DS0.n, DS0.p, DS0.fits (by decide), ?_⟩
    refine ⟨_, rfl, pu, us, rfl, .inr (sq_tup (s2 _ _ (sE _ _ hpu))), _, rfl, by omega, by omega, fun D nD => ?_⟩
    refine lc_range (lo := 0) (n := ((us.length : Nat) : Int).toNat) (fun i H' => ∃ us3, H' D = some (.lst us3) ∧ All2 (PB H') us3 ((List.range i).map (ways (sumsOf wl))) ∧ Same H2 H') ⟨[], upd_same, .nil, same_upd nD⟩ (fun i H3 hi hI => ?_) (fun H3 hI => ?_)
    · obtain ⟨us3, hD, al3, s3⟩ := hI
      rw [Int.toNat_natCast] at hi
      rw [show ((0 : Int) + (i : Nat)) = (i : Int) by omega]
      refine ⟨rfl, _, rfl, _, rfl, .ref pr, i, sumsOf wl, rfl, rs1.tk (.of (s2.trans s3)), (fun r hr' => by rw [lam r hr']; omega), fun H4 p4 s4 hp4 => ?_⟩
      have l3 := al3.len
      rw [List.length_map, List.length_range] at l3
      have tk4 := (TK.of s4).trans (TK.put (o := .lst (us3 ++ [.ref p4])) (s4 _ _ hD))
      refine ⟨us3, s4 _ _ hD, small1000 (by omega), us3 ++ [.ref p4], upd_same, ?_, same_at (s3.trans s4) nD⟩
      rw [List.range_succ, List.map_append]
      exact (al3.mono fun v x k => k.tk tk4).app ⟨p4, rfl, TK.put (s4 _ _ hD) _ _ hp4⟩
    obtain ⟨us3, hD, al3, s3⟩ := hI
    rw [Int.toNat_natCast, lu] at al3
    refine ⟨D, _, rfl, .inl ⟨sq_lst hD, fun q3 nq3 => ?_⟩⟩
    have k3 := same_upd (o := .tup us3) nq3
    refine ⟨q3, dB ((List.range ul.length).map (ways (sumsOf wl))), rfl, .tup (sq_tup upd_same) (dpB (al3.mono fun v x (k : PB H3 v x) => k.same k3)), DS0.s, DS0.n, DS0.p, DS0.fits (by decide), ?_⟩
    refine ⟨rfl, _, rfl, ite2 (fun z => absurd z (by simp)) (fun _ => ?_)⟩
    have sF := (s2.trans s3).trans k3
    generalize upd H3 q3 (.tup us3) = HF at *
    have s0F := sE.trans sF
    have fo : ∀ f ∈ st, FrOk f := fun f hf => (w9 f hf).ok
    have bf : ∀ f ∈ st, 0 < f.2 ∧ f.2 ≤ 12 := fun f hf => ⟨(w9 f hf).pos, (w9 f hf).le⟩
    have tvF : TaskV C HF (.ref x) ul wl goal := ⟨x, dx, pu, pw, pg, us, ws, rfl, sF _ _ ex, s0F _ _ hpu, uvs.same s0F, sF _ _ (tBE _ _ hpw), (wv.same tBE).same sF, s0F _ _ hpg⟩
    refine ⟨_, rfl, _, rfl, _, rfl, _, rfl, .ref pu, .ref pr, .ref pg, .ref ps, ul, sumsOf wl, goal, st, rfl, us0.tk (.of s0F), rs0.tk (.of s0F), lg0.same s0F, sv0.same s0F, by omega, lam, w7, w8, fo, fun H5 q5 l s5 el hq5 => ?_, fun H5 s5 en => ?_⟩
    · have sG := s0F.trans s5
      have tvG : TaskV C H5 (.ref x) ul wl goal := ⟨x, dx, pu, pw, pg, us, ws, rfl, s5 _ _ (sF _ _ ex), sG _ _ hpu, uvs.same sG, s5 _ _ (sF _ _ (tBE _ _ hpw)), ((wv.same tBE).same sF).same s5, sG _ _ hpg⟩
      obtain ⟨p1, p2, p3, ll, bl⟩ := W.pts el
      have sh : ∀ c ∈ l, Sh12 c := fun c hc => Nat.lt_of_le_of_lt (bl c hc) (by decide)
      refine ⟨_, rfl, _, rfl, .ref x, .ref ps, ul, wl, goal, st, rfl, tvG, sv0.same sG, by omega, by omega, lam, w7, w8, fo, fun H6 q6 l6 s6 e6 hq6 => ?_, fun H6 s6 e6 => ?_⟩
      · rw [el] at e6
        cases e6
        refine ⟨_, _, rfl, ?_⟩
        have hq56 := s6 _ _ hq5
        have sH := sG.trans s6
        refine ⟨_, rfl, shownI ⟨q6, rfl, hq6⟩ sh (by omega) ⟨_, rfl, shownI ⟨q5, rfl, hq56⟩ sh (by omega) ⟨rfl, _, rfl, ite2 (fun z => absurd z (by simp)) (fun _ => ?_)⟩⟩⟩
        refine ⟨_, rfl, rfl, _, rfl, ite2 (fun z => absurd z (by simp)) (fun _ => ?_)⟩
        refine ⟨_, rfl, q6, rfl, ⟨_, sq_tup hq6⟩, fun D2 nD2 => ?_⟩
        refine lc_tup (K := K) (a := q6) (xs := l.map V.int) (fun i H' => ∃ us4, H' D2 = some (.lst us4) ∧ All2 (FV H') us4 (ptsOf (l.take i)) ∧ Same H6 H') ⟨[], upd_same, .nil, same_upd nD2⟩ (fun i H' _ h => by obtain ⟨_, _, _, sm⟩ := h; exact sq_tup (sm _ _ hq6)) ?_ ?_
        · rintro i v H7 hv ⟨us4, hD4, al4, s7⟩
          obtain ⟨c, hc, rfl⟩ := at_map hv
          have li : i < l.length := (List.getElem?_eq_some_iff.mp hc).1
          refine ⟨rfl, _, rfl, len2, fun t nt => ?_⟩
          have k7 := same_upd (o := .tup [.int c, .int 1]) nt
          have l4 := al4.len
          rw [ptsOf_len, List.length_take] at l4
          have tk7 := (TK.of k7).trans (TK.put (o := .lst (us4 ++ [.ref t])) (k7 _ _ hD4))
          refine ⟨us4, k7 _ _ hD4, small1000 (by omega), us4 ++ [.ref t], upd_same, ?_, same_at (s7.trans k7) nD2⟩
          unfold ptsOf
          rw [take_one hc, List.map_append]
          exact (al4.mono fun v x k => k.tk tk7).app ⟨t, rfl, TK.put (k7 _ _ hD4) _ _ upd_same⟩
        rintro H7 ⟨us4, hD4, al4, s7⟩
        rw [List.length_map, List.take_length] at al4
        have sI := sH.trans s7
        have bp : ∀ f ∈ ptsOf l, 0 < f.2 ∧ f.2 ≤ 12 := fun f hf => by
          obtain ⟨z, _, rfl⟩ := List.mem_map.mp hf
          exact ⟨show (0 : Int) < 1 by decide, show (1 : Int) ≤ 12 by decide⟩
        have lp := ptsOf_len l
        refine ⟨_, rfl, _, rfl, _, rfl, .ref pu, .ref pr, .ref D2, ul, sumsOf wl, ptsOf l, rfl, us0.tk (.of sI), rs0.tk (.of sI), ⟨D2, us4, rfl, .inl hD4, al4⟩, by omega, (fun r hr' => ⟨lam r hr', (w11 r hr').ok.bd⟩), by omega, bp, p1, p2, fun H8 s8 => ⟨true, rfl, iteF ?_⟩⟩
        have hD8 := s8 _ _ hD4
        have al8 := al4.mono fun v x (k : FV H7 v x) => k.tk (.of s8)
        have sJ := sI.trans s8
        refine ⟨_, rfl, pr, rfl, ⟨_, sq_tup (sJ _ _ hpr)⟩, fun D3 nD3 => ?_⟩
        refine lc_tup (K := K) (a := pr) (xs := rs) (fun i H' => H' D3 = some (.lst []) ∧ Same H8 H') ⟨upd_same, same_upd nD3⟩ (fun i H' _ h => sq_tup (h.2 _ _ (sJ _ _ hpr))) ?_ ?_
        · rintro i v H9 hv ⟨hD3, s9⟩
          obtain ⟨r, hr', p, qa, rfl, hp, hqa⟩ := rvs.at_ hv
          have mr := List.mem_of_getElem? hr'
          have g := w11 r mr
          have sK := sJ.trans s9
          have rl := g.ok.len
          refine ⟨rfl, _, rfl, p, _, 1, _, rfl, rfl, sq_tup (sK _ _ hp), rfl, _, rfl, .ref qa, .ref D2, r.am, ptsOf l, rfl, ⟨qa, rfl, .inr (sK _ _ hqa)⟩, ⟨D2, us4, rfl, .inl (s9 _ _ hD8), al8.mono fun v x k => k.tk (.of s9)⟩, by omega, by omega, g.ok.bd, bp, fun H10 s10 => ?_⟩
          have sL := sK.trans s10
          refine ⟨_, rfl, p, _, 1, _, rfl, rfl, sq_tup (sL _ _ hp), rfl, _, rfl, .ref qa, .ref ps, r.am, st, rfl, ⟨qa, rfl, .inr (sL _ _ hqa)⟩, (sv0.same sL).sa, by omega, by omega, g.ok.bd, bf, fun H11 s11 => ?_⟩
          have le := p3 r mr
          exact ⟨_, _, rfl, rfl, _, rfl, ite2 (fun h => absurd (show tot r.am (ptsOf l) < tot r.am st from of_decide_eq_true h) (by omega)) (fun _ => ⟨s11 _ _ (s10 _ _ hD3), (s9.trans s10).trans s11⟩)⟩
        · rintro H9 ⟨hD3, s9⟩
          refine ⟨nil_ok, fun l5 nl5 => ?_⟩
          have k5 := same_upd (o := .lst []) nl5
          refine ⟨.list [], .list [], .lst (sq_lst (k5 _ _ hD3)) .nil, .lst (sq_lst upd_same) .nil, shpL [], shpL [], ?_⟩
          rw [eqvE]
          exact fin _ ((sJ.trans s9).trans k5)
      · rw [el] at e6; cases e6
    · have sG := s0F.trans s5
      have tvG : TaskV C H5 (.ref x) ul wl goal := ⟨x, dx, pu, pw, pg, us, ws, rfl, s5 _ _ (sF _ _ ex), sG _ _ hpu, uvs.same sG, s5 _ _ (sF _ _ (tBE _ _ hpw)), ((wv.same tBE).same sF).same s5, sG _ _ hpg⟩
      refine ⟨_, rfl, _, rfl, .ref x, .ref ps, ul, wl, goal, st, rfl, tvG, sv0.same sG, by omega, by omega, lam, w7, w8, fo, fun H6 q6 l6 s6 e6 hq6 => ?_, fun H6 s6 e6 => ?_⟩
      · rw [en] at e6; cases e6
      · refine ⟨_, _, rfl, ?_⟩
        refine ⟨_, rfl, .inr ⟨rfl, _, rfl, .inr ⟨rfl, rfl, _, rfl, ite2 (fun z => absurd z (by simp)) (fun _ => ?_)⟩⟩⟩
        exact ⟨_, rfl, rfl, _, rfl, ite2 (fun _ => fin _ (sG.trans s6)) (fun z => absurd (by simp) z)⟩
end
end M56

namespace M56
open PySem PySem.Spec PyProof.Rows L2 SX Own Gd
open C8 (Cal pe_c pe_gc pe_mk Mak pss_cut)
/-! ### names -/
def letterC (i : Nat) : Nat := ([98, 100, 102, 104, 106, 108] : List Nat).getD i 0
def suff (d : Nat) : Str := (["", "a", "zzzzz"] : List Str).getD d ""
def nmOf (i d : Nat) : Str := (⟨#[letterC i]⟩ : Str) ++ suff d
def nmB (s : Str) : Bool := decide (1 ≤ s.length) && (decide (s.length ≤ 6) && (s.cps.toList.all (fun c => ("abcdefghijklmnopqrstuvwxyz" : Str).cps.toList.contains c) && !inV (.str s) (wordsL.map V.str)))
theorem nm_of {s : Str} (h : nmB s = true) : NmOk s := by
  unfold nmB at h
  rw [Bool.and_eq_true, Bool.and_eq_true, Bool.and_eq_true] at h
  obtain ⟨h1, h2, h3, h4⟩ := h
  refine ⟨of_decide_eq_true h1, of_decide_eq_true h2, fun c hc => ?_, ?_⟩
  · have := List.all_eq_true.mp h3 c hc
    exact List.contains_iff_mem.mp this
  · simpa using h4
theorem nm_all : ∀ i : Fin 6, ∀ d : Fin 3, nmB (nmOf i d) = true := by decide +kernel
theorem nm_ok {i d : Nat} (hi : i < 6) (hd : d < 3) : NmOk (nmOf i d) := nm_of (nm_all ⟨i, hi⟩ ⟨d, hd⟩)
theorem nm_lt_all : ∀ i : Fin 5, ∀ d e : Fin 3, (nmOf i d).cps.toList < (nmOf (i + 1) e).cps.toList := by decide +kernel
theorem nm_lt {i d e : Nat} (hi : i < 5) (hd : d < 3) (he : e < 3) : (nmOf i d).cps.toList < (nmOf (i + 1) e).cps.toList := nm_lt_all ⟨i, hi⟩ ⟨d, hd⟩ ⟨e, he⟩
theorem at_letter : ∀ i : Fin 6, ("bdfhjl" : Str).cps.toList[i.val]? = some (letterC i) := by decide +kernel
theorem suff_len : ∀ d : Fin 3, (suff d).length ≤ 5 := by decide +kernel
def Ul (ul : List Unk) : Prop := ∀ i u, ul[i]? = some u → ∃ d : Nat, d < 3 ∧ u.1 = nmOf i d ∧ u.2.1 ≤ u.2.2
theorem Ul.nil : Ul [] := fun i u h => by simp at h
theorem Ul.app {ul : List Unk} {d : Nat} {lo hi : Int} (h : Ul ul) (hd : d < 3) (le : lo ≤ hi) : Ul (ul ++ [(nmOf ul.length d, lo, hi)]) := fun i u e => by
  by_cases c : i < ul.length
  · rw [List.getElem?_append_left c] at e; exact h i u e
  · rw [List.getElem?_append_right (by omega)] at e
    by_cases z : i - ul.length = 0
    · rw [z] at e
      cases e
      have : i = ul.length := by omega
      subst this
      exact ⟨d, hd, rfl, le⟩
    · obtain ⟨k, hk⟩ : ∃ k, i - ul.length = k + 1 := ⟨i - ul.length - 1, by omega⟩
      rw [hk] at e; simp at e
theorem Ul.ok {ul : List Unk} (h : Ul ul) (l1 : 1 ≤ ul.length) (l6 : ul.length ≤ 6) : UnkOk ul := by
  refine ⟨l1, by omega, fun u hu => ?_, fun u hu => ?_, fun i u v hu hv => ?_⟩
  · obtain ⟨i, hi, e⟩ := List.getElem_of_mem hu
    obtain ⟨d, hd, e1, _⟩ := h i u (by rw [List.getElem?_eq_getElem hi, e])
    rw [e1]; exact nm_ok (by omega) hd
  · obtain ⟨i, hi, e⟩ := List.getElem_of_mem hu
    obtain ⟨d, hd, _, e2⟩ := h i u (by rw [List.getElem?_eq_getElem hi, e])
    exact e2
  · obtain ⟨d, hd, e1, _⟩ := h i u hu
    obtain ⟨d', hd', e1', _⟩ := h (i + 1) v hv
    rw [e1, e1']
    exact nm_lt (by have := (List.getElem?_eq_some_iff.mp hv).1; omega) hd hd'
/-! ### what the law carries along -/
structure D1 (H : Hp) (h q ps pu pg : Addr) (st : List Fr) (ul : List Unk) (goal : List Int) : Prop where
  a : HpAt H h q
  sv : SV H (.ref ps) st
  us : UsV H (.ref pu) ul
  lg : LV H (.ref pg) goal
theorem D1.to {H H' : Hp} {h q ps pu pg : Addr} {st : List Fr} {ul : List Unk} {goal : List Int} (d : D1 H h q ps pu pg st ul goal) (k : Kpt h q H H') (a : HpAt H' h q) : D1 H' h q ps pu pg st ul goal :=
  have tk := TK.kp k d.a
  ⟨a, d.sv.tk tk, d.us.tk tk, d.lg.tk tk⟩
theorem D1.same {H H' : Hp} {h q ps pu pg : Addr} {st : List Fr} {ul : List Unk} {goal : List Int} (d : D1 H h q ps pu pg st ul goal) (s : Same H H') : D1 H' h q ps pu pg st ul goal := d.to (.of_same s) (d.a.same s)
structure Nums (n : Nat) (st : List Fr) (ul : List Unk) (goal : List Int) : Prop where
  n1 : 1 ≤ n
  n6 : n ≤ 6
  ls : st.length = n
  lu : ul.length = n
  lg : goal.length = n
  f : ∀ f ∈ st, F12 f
  u : UnkOk ul
  un : ∀ (k : Nat) u f, ul[k]? = some u → st[k]? = some f → UN u f
theorem Nums.want {n : Nat} {st : List Fr} {ul : List Unk} {goal : List Int} (N : Nums n st ul goal) {rl : List Row} {ow : List Wish} {goal' : List Int} (r : ∀ r ∈ rl, Good n st r) (lr : rl.length ≤ 20) (o5 : ow.length ≤ 5) (os : sumsOf ow = []) (ok : ∀ x ∈ ow, WishOk n x) (lg : goal'.length = n) : Want ul rl ow goal' st :=
  ⟨N.u, by have := N.n6; have := N.lu; omega, lr, o5, os, by rw [N.lu]; exact ok, by rw [N.ls, N.lu], by rw [lg, N.lu], N.f, N.un, by rw [N.lu]; exact r⟩
theorem Kpt.tv {C : Addr} {H H' : Hp} {h q : Addr} {v : V} {ul : List Unk} {wl : List Wish} {goal : List Int} (t : TaskV C H v ul wl goal) (k : Kpt h q H H') (a : HpAt H h q) : TaskV C H' v ul wl goal := by
  obtain ⟨x, dx, pu, pw, pg, us, ws, e, hx, hu, uv, hw, wv, hg⟩ := t
  have tk := TK.kp k a
  obtain ⟨cs, s0, a⟩ := a
  exact ⟨x, dx, pu, pw, pg, us, ws, e, k _ _ hx (fun z => by rw [z, a.hh] at hx; cases hx) (fun z => by rw [z, a.hq] at hx; cases hx), tk _ _ hu, uv.tk tk, tk _ _ hw, wv.tk tk, tk _ _ hg⟩
theorem seq_kp {K : PySem.W.Frag} {a h q : Addr} {H H' : Hp} {xs : List V} (x : SqL K H a xs) (k : Kpt h q H H') (n1 : H h = none) (n2 : H q = none) : SqL K H' a xs := by
  rcases x with (e | ⟨o, e⟩) | e
  · exact .inl (.inl (k _ _ e (fun z => by rw [z, n1] at e; cases e) (fun z => by rw [z, n2] at e; cases e)))
  · exact .inl (.inr ⟨o, k _ _ e (fun z => by rw [z, n1] at e; cases e) (fun z => by rw [z, n2] at e; cases e)⟩)
  · exact .inr e
abbrev sg (a h n ps mo y5 pk u7 u8 y9 y10 u11 u12 u13 u14 u15 u16 u17 u18 u19 u20 u21 u22 u23 u24 u25 : Option V) : L2.St := [a, h, n, ps, mo, y5, pk, u7, u8, y9, y10, u11, u12, u13, u14, u15, u16, u17, u18, u19, u20, u21, u22, u23, u24, u25, none, none, none, none]
theorem inc01 : Inc [0, 1] := fun i x y hx hy => by
  cases i with
  | zero =>
    cases hx
    cases hy
    decide
  | succ i => simp at hy
theorem unlike_ok {n : Nat} (h : 1 < n) : WishOk n (.unlike [0, 1]) := by
  refine ⟨fun c hc => ?_, inc01, by decide, by decide⟩
  rcases List.mem_cons.mp hc with rfl | hc
  · omega
  · rw [List.mem_singleton.mp hc]; omega
theorem bench_ok {n : Nat} (h : 1 < n) : WishOk n (.bench [[0, 2], [(n : Int) - 1, 1]]) := by
  refine ⟨show 2 ≤ 2 by decide, show 2 ≤ 100 by decide, fun j hj => ?_, fun j hj c hc => ?_, fun i x y hx hy => ?_, fun c hc => ?_⟩
  · rcases List.mem_cons.mp hj with rfl | hj
    · rfl
    · rw [List.mem_singleton.mp hj]; rfl
  · rcases List.mem_cons.mp hj with rfl | hj
    · rw [List.mem_singleton.mp hc]; decide
    · rw [List.mem_singleton.mp hj] at hc
      rw [List.mem_singleton.mp hc]; decide
  · cases i with
    | zero =>
      cases hx
      cases hy
      show (0 : Int) < (n : Int) - 1
      omega
    | succ i => simp at hy
  · rcases List.mem_cons.mp hc with rfl | hc
    · show (0 : Int) ≤ 0 ∧ (0 : Int) < n
      omega
    · rw [List.mem_singleton.mp hc]
      show (0 : Int) ≤ (n : Int) - 1 ∧ (n : Int) - 1 < n
      omega
theorem table_ok {n : Nat} (h : 1 < n) : WishOk n (.table [1] [[-3], [5]]) := by
  refine ⟨fun c hc => ?_, by decide, by decide, by decide, by decide, by decide, fun l hl => ?_, fun i x y hx hy => ?_⟩
  · rw [List.mem_singleton.mp hc]; omega
  · rcases List.mem_cons.mp hl with rfl | hl
    · rfl
    · rw [List.mem_singleton.mp hl]; rfl
  · cases i with
    | zero =>
      cases hx
      cases hy
      decide
    | succ i => simp at hy
structure D2 (C : Addr) (H : Hp) (h q ps pu pg pr po x : Addr) (st : List Fr) (ul : List Unk) (goal : List Int) (rl : List Row) (ow : List Wish) : Prop where
  d : D1 H h q ps pu pg st ul goal
  rv : RsV H (.ref pr) rl
  ov : OV H (.ref po) ow
  tv : TaskV C H (.ref x) ul (rl.map .sum) goal
theorem D2.to {C : Addr} {H H' : Hp} {h q ps pu pg pr po x : Addr} {st : List Fr} {ul : List Unk} {goal : List Int} {rl : List Row} {ow : List Wish} (d : D2 C H h q ps pu pg pr po x st ul goal rl ow) (k : Kpt h q H H') (a : HpAt H' h q) : D2 C H' h q ps pu pg pr po x st ul goal rl ow :=
  have tk := TK.kp k d.d.a
  ⟨d.d.to k a, d.rv.tk tk, d.ov.tk tk, Kpt.tv d.tv k d.d.a⟩
theorem D2.same {C : Addr} {H H' : Hp} {h q ps pu pg pr po x : Addr} {st : List Fr} {ul : List Unk} {goal : List Int} {rl : List Row} {ow : List Wish} (d : D2 C H h q ps pu pg pr po x st ul goal rl ow) (s : Same H H') : D2 C H' h q ps pu pg pr po x st ul goal rl ow := d.to (.of_same s) (d.d.a.same s)
def shownR (o : Option (List Int)) : Str := match o with
  | some l => (dI l).shown
  | none => "None"
theorem Nums.bound {n : Nat} {st : List Fr} {ul : List Unk} {goal : List Int} (N : Nums n st ul goal) {rl : List Row} (gr : ∀ r ∈ rl, Good n st r) (lr : rl.length ≤ 20) {l : List Int} (e : rndN (rsOf st rl goal) ul.length = some l) : l.length ≤ 100 ∧ ∀ c ∈ l, Sh12 c := by
  obtain ⟨_, _, _, ll, bl⟩ := (N.want (ow := []) gr lr (by decide) rfl (by simp) N.lg).pts e
  exact ⟨by have := N.n6; have := N.lu; omega, fun c hc => Nat.lt_of_le_of_lt (bl c hc) (by decide)⟩
theorem cut_to {xs : List V} {n : Nat} (h : n ≤ xs.length) : cutV xs none (some (n : Int)) = xs.take n := by
  unfold cutV
  rw [HT.sIx_none, show HT.sIx xs.length xs.length (some (n : Int)) = min n xs.length from HT.sIx_nat _ _ n, List.drop_zero, Nat.sub_zero, Nat.min_eq_left h]
theorem cut_from {xs : List V} {n : Nat} (h : n ≤ xs.length) : cutV xs (some (n : Int)) none = xs.drop n := by
  unfold cutV
  rw [HT.sIx_nat, HT.sIx_none, Nat.min_eq_left h, List.take_of_length_le (by rw [List.length_drop]; omega)]
theorem slA_to {K : PySem.W.Frag} {H : Hp} {p : Addr} {us : List V} {rl : List Row} {n : Nat} {Q : VK} (hp : H p = some (.tup us)) (al : All2 (RV H) us rl) (hn : n ≤ us.length)
    (q : ∀ p' us' H', Same H H' → H' p' = some (.tup us') → All2 (RV H') us' (rl.take n) → Q (.ref p') H') : rSlA K (.ref p) none (some (n : Int)) H Q := by
  refine ⟨p, us, rfl, sq_tup hp, fun z => ?_, fun _ y ny => ?_⟩
  · have z := z.2
    rw [show HT.sIx us.length us.length (some (n : Int)) = min n us.length from HT.sIx_nat _ _ n] at z
    refine q p us H (Same.refl _) hp ?_
    rw [List.take_of_length_le (by rw [← al.len]; omega)]
    exact al
  · have k := same_upd (o := .tup (cutV us none (some (n : Int)))) ny
    refine q y (us.take n) _ k (by rw [upd_same, cut_to hn]) ?_
    exact (al.take n).mono fun v x h => h.same k
theorem slA_from {K : PySem.W.Frag} {H : Hp} {p : Addr} {us : List V} {rl : List Row} {n : Nat} {Q : VK} (hp : H p = some (.tup us)) (al : All2 (RV H) us rl) (hn : n ≤ us.length)
    (q : ∀ p' us' H', Same H H' → H' p' = some (.tup us') → All2 (RV H') us' (rl.drop n) → Q (.ref p') H') : rSlA K (.ref p) (some (n : Int)) none H Q := by
  refine ⟨p, us, rfl, sq_tup hp, fun z => ?_, fun _ y ny => ?_⟩
  · have z := z.1
    rw [HT.sIx_nat] at z
    have z0 : min n us.length = 0 := z
    have e0 : n = 0 ∨ us = [] := by
      rcases Nat.eq_zero_or_pos us.length with h | h
      · exact .inr (List.length_eq_zero_iff.mp h)
      · left; omega
    refine q p us H (Same.refl _) hp ?_
    rcases e0 with rfl | rfl
    · exact al
    · cases al
      rw [List.drop_nil]; exact .nil
  · have k := same_upd (o := .tup (cutV us (some (n : Int)) none)) ny
    refine q y (us.drop n) _ k (by rw [upd_same, cut_from hn]) ?_
    exact (al.drop n).mono fun v x h => h.same k
theorem cat_r {K : PySem.W.Frag} {H : Hp} {p1 p2 : Addr} {us1 us2 : List V} {r1 r2 : List Row} {Q : VK} (h1 : H p1 = some (.tup us1)) (h2 : H p2 = some (.tup us2)) (w1 : All2 (RV H) us1 r1) (w2 : All2 (RV H) us2 r2) (l : us1.length + us2.length ≤ 1000)
    (q : ∀ p us H', Same H H' → H' p = some (.tup us) → All2 (RV H') us (r1 ++ r2) → Q (.ref p) H') : rCatA K (.ref p1) (.ref p2) H Q := by
  refine ⟨p1, p2, us1, us2, rfl, rfl, sq_tup h1, sq_tup h2, by rw [sizeLine_eq]; omega, fun e => ?_, fun _ e => ?_, fun _ _ p np => ?_⟩
  · subst e
    cases w1
    exact q p2 us2 H (Same.refl _) h2 w2
  · subst e
    cases w2
    exact q p1 us1 H (Same.refl _) h1 (by rw [List.append_nil]; exact w1)
  · have k := same_upd (o := .tup (us1 ++ us2)) np
    exact q p _ _ k upd_same ((w1.mono fun v x h => h.same k).cat (w2.mono fun v x h => h.same k))
/-- one amount other than 0 -/
def oneAm (n k : Nat) (c : Int) : List Int := (List.replicate n 0).set k c
theorem one_len {n k : Nat} {c : Int} : (oneAm n k c).length = n := by unfold oneAm; rw [List.length_set, List.length_replicate]
theorem one_nz {n k : Nat} {c : Int} (h : k < n) (h0 : c ≠ 0) : ∃ x ∈ oneAm n k c, x ≠ 0 := by
  refine ⟨c, ?_, h0⟩
  unfold oneAm
  exact List.mem_of_getElem? (by rw [List.getElem?_set, if_pos rfl, if_pos (by rw [List.length_replicate]; exact h)])
theorem one_bd {n k : Nat} {c : Int} (h : -10 ≤ c ∧ c ≤ 10) : ∀ x ∈ oneAm n k c, -10 ≤ x ∧ x ≤ 10 := fun x hx => by
  unfold oneAm at hx
  rcases List.mem_or_eq_of_mem_set hx with z | z
  · rw [(List.mem_replicate.mp z).2]; decide
  · rw [z]; exact h
theorem good_more {n : Nat} {st : List Fr} {am : List Int} (l : am.length = n) (nz : ∃ c ∈ am, c ≠ 0) (b : ∀ c ∈ am, -10 ≤ c ∧ c ≤ 10) : Good n st ⟨am, false, tot am st / 12⟩ := by
  have := good_ge (st := st) l nz b (Int.le_refl 0)
  rwa [Int.sub_zero] at this
theorem near_bd {f : Fr} (hf : F12 f) : Sh12 (nearF f) := by
  rw [near_eq hf]
  have := div_bd (b := f.2) hf.bd
  unfold Sh12
  split <;> omega
def st7 : List Fr := [(7, 2), (-7, 2), (999999, 2), (-1, 3), (5, 7), (-12, 17), (499999, 1000000)]
theorem st7_near : st7.map nearF = [3, -4, 499999, 0, 1, -1, 0] := by decide
theorem st7_ok : ∀ f ∈ st7, FrOk f := by
  unfold FrOk
  decide
def RO (H : Hp) (v : V) : Option Row → Prop
  | none => v = .non
  | some r => RV H v r
theorem RO.tk {H H' : Hp} {v : V} {o : Option Row} (h : RO H v o) (s : TK H H') : RO H' v o := by
  cases o with
  | none => exact h
  | some r => exact RV.tk h s
structure LoopA (H H' : Hp) (h q D l1 l2 ps : Addr) (ks : List Int) (us : List V) (ul : List Unk) (goal : List Int) (st : List Fr) (i : Nat) : Prop where
  a : HpAt H' h q
  kp : Kpt h q H H'
  eD : H' D = some (tL ks)
  e1 : H' l1 = some (.lst us)
  e2 : H' l2 = some (tL goal)
  uv : UVs H' us ul
  sv : SV H' (.ref ps) st
  u : Ul ul
  lu : ul.length = i
  lg : goal.length = i
  un : ∀ (k : Nat) u f, ul[k]? = some u → st[k]? = some f → UN u f
structure Ap (H : Hp) (h q D l1 l2 : Addr) : Prop where
  d1 : D ≠ h
  d2 : D ≠ q
  a1 : l1 ≠ h
  a2 : l1 ≠ q
  b1 : l2 ≠ h
  b2 : l2 ≠ q
  n1 : H l1 = none
  n2 : H l2 = none
  ne : l1 ≠ l2
  nd1 : D ≠ l1
  nd2 : D ≠ l2
theorem LoopA.to {H H1 H2 : Hp} {h q D l1 l2 ps : Addr} {ks : List Int} {us : List V} {ul : List Unk} {goal : List Int} {st : List Fr} {i : Nat} (AP : Ap H h q D l1 l2) (g : LoopA H H1 h q D l1 l2 ps ks us ul goal st i) (k : Kpt h q H1 H2) (a : HpAt H2 h q) : LoopA H H2 h q D l1 l2 ps ks us ul goal st i :=
  have tk := TK.kp k g.a
  ⟨a, g.kp.trans k, k _ _ g.eD AP.d1 AP.d2, k _ _ g.e1 AP.a1 AP.a2, k _ _ g.e2 AP.b1 AP.b2, g.uv.tk tk, g.sv.tk tk, g.u, g.lu, g.lg, g.un⟩
theorem LoopA.app1 {H H1 : Hp} {h q D l1 l2 ps t : Addr} {ks : List Int} {us : List V} {ul : List Unk} {goal : List Int} {st : List Fr} {i e : Nat} {lo hi : Int} {f : Fr} (A : Ap H h q D l1 l2) (g : LoopA H H1 h q D l1 l2 ps ks us ul goal st i) (et : H1 t = some (.tup [.str (nmOf i e), .int lo, .int hi])) (he : e < 3) (hf : st[i]? = some f) (hU : UN (nmOf i e, lo, hi) f) (le : lo ≤ hi) :
    let H2 := upd H1 l1 (.lst (us ++ [.ref t]))
    HpAt H2 h q ∧ Kpt h q H H2 ∧ H2 D = some (tL ks) ∧ H2 l1 = some (.lst (us ++ [.ref t])) ∧ H2 l2 = some (tL goal) ∧ UVs H2 (us ++ [.ref t]) (ul ++ [(nmOf i e, lo, hi)]) ∧ SV H2 (.ref ps) st ∧ Ul (ul ++ [(nmOf i e, lo, hi)]) ∧ (ul ++ [(nmOf i e, lo, hi)]).length = i + 1 ∧ ∀ (k : Nat) u f, (ul ++ [(nmOf i e, lo, hi)])[k]? = some u → st[k]? = some f → UN u f := by
  intro H2
  have tk : TK H1 H2 := TK.put g.e1
  refine ⟨g.a.upd A.a1 A.a2, g.kp.at_new A.n1, (by show upd _ _ _ _ = _; rw [upd_ne A.nd1]; exact g.eD), upd_same, (by show upd _ _ _ _ = _; rw [upd_ne A.ne.symm]; exact g.e2), (g.uv.tk tk).app ⟨t, rfl, tk _ _ et⟩, g.sv.tk tk, ?_, by rw [List.length_append, g.lu]; rfl, fun k u f' hu hf' => ?_⟩
  · have := g.u.app he le
    rw [g.lu] at this
    exact this
  · by_cases c : k < ul.length
    · rw [List.getElem?_append_left c] at hu
      exact g.un k u f' hu hf'
    · rw [List.getElem?_append_right (by omega)] at hu
      have hk : k - ul.length < 1 := (List.getElem?_eq_some_iff.mp hu).1
      have ek : k = i := by have := g.lu; omega
      subst ek
      rw [g.lu, Nat.sub_self] at hu
      cases hu
      rw [hf] at hf'
      cases hf'
      exact hU
section
variable {P : Program} {w : World} {K : PySem.W.Frag} {mg : Str → Option Value} {base : Heap} {aW aT : Addr} {es : Array DictEntry} {nn : Nat}
abbrev s_law : Stmt := topS 47
abbrev n_law : List Str := ["script", "deal", "many", "start", "mostly", "k", "kinds", "unknowns", "goal", "low", "high", "others", "rows", "first", "kept", "at", "size", "sign", "amounts", "more", "place", "fixed", "near", "top", "bottom", "base", "turn", "row", "amount", "one"]
theorem sc_law : FnScope n_law ["script"] (defScope s_law) := ⟨rfl, rfl, rfl, by decide +kernel, rfl, by decide +kernel, by decide +kernel⟩
def spLaw (K : PySem.W.Frag) : Sp := fun vs H Q _ => ∃ (a : Addr) (ns : List Int), vs = [.ref a] ∧ SqL K H a (ns.map V.int) ∧ ns.length ≤ 63 ∧ ∀ H', Q (.bl true) H'
structure LawC (P : Program) (w : World) (K : PySem.W.Frag) (mg : Str → Option Value) (base : Heap) (C : Addr) : Prop where
  draw : Cal P w K mg base 1 "_law_draw" (spHeap K) []
  any : Cal P w K mg base 1 "_law_any" spDraw []
  of_ : Cal P w K mg base 2 "_law_of" spPickL []
  start : Cal P w K mg base 3 "_law_start" spStart []
  row : Cal P w K mg base 3 "_law_row" spLRow []
  total : Cal P w K mg base 1 "_law_total" spTot []
  keeps : Cal P w K mg base 2 "_law_keeps" spKeeps []
  right : CalG P w K mg base 10 "_law_right" spRight
  mak : Mak P w K mg base 8 "Task" C (spTask C) []
  rnd : Cal P w K mg base 3 "rounded_by_signs" (spRnd C) []
  near : Cal P w K mg base 1 "nearest_point" spNear []
  nearK : CalK P w K mg base 1 "nearest_point" ["start"] id spNear
theorem ok_law {f C : Addr} {fd : FuncData} (F : Fun K "law" "law" s_law f fd) (T : Txt K mg w aW aT es nn) (LC : LawC P w K mg base C) : FnG P w K mg base CX0 11 f fd ["script"] (spLaw K) := by
  obtain ⟨c_Ldraw, c_Lany, c_Lof, c_Lstart, c_Lrow, c_Ltotal, c_Lkeeps, c_Lright, m_Task, c_rounded_by_signs, c_nearest_point, k_nearest_point_start⟩ := LC
  refine fun_okG F sc_law (fun vs H Q E h => ?_) (fun cdv A outer s0 H vs Q E hgd hr h => ?_)
  · obtain ⟨a, ns, rfl, _⟩ := h
    rfl
  · obtain ⟨a, ns, rfl, hS, hlen, fin⟩ := h
    refine ⟨_, (pss_cons (ps_set (i := 1) sc_law.nd rfl (.inr rfl) (pe_c c_Ldraw hr (by decide) (by rfl) (pa_cons (pv 0) (pa_cons pe_int pa_nil))))
      (pss_cons (ps_set (i := 2) sc_law.nd rfl (.inl rfl) (pe_op op_add pe_int (pe_c c_Lany hr (by decide) (by rfl) (pa_cons (pv 1) (pa_cons pe_int pa_nil)))))
      (pss_cons (ps_set (i := 3) sc_law.nd rfl (.inr rfl) (pe_c c_Lstart hr (by decide) (by rfl) (pa_cons (pv 1) (pa_cons (pv 2) pa_nil))))
      (pss_cons (ps_set (i := 4) sc_law.nd rfl (.inr rfl) (pe_c c_Lany hr (by decide) (by rfl) (pa_cons (pv 1) (pa_cons pe_int pa_nil))))
      (pss_cons (ps_set (i := 6) sc_law.nd rfl (.inr rfl) (pe_lc (own := [("k", 5)]) rfl sc_law.nd (pi_range1 (by rfl) T.b_range (pa_cons (pv 2) pa_nil)) (blkOk_by (N := n_law) (sc := defScope s_law) (by decide +kernel)) (fun _ _ _ _ _ => (pg_name (i := 5) sc_law.nd rfl (.inl rfl))) (fun _ _ _ _ _ => pts_nil) (fun _ _ _ _ _ => (pe_c c_Lany hr (by decide) (by rfl) (pa_cons (pv 1) (pa_cons (pe_ifExp (pt_cmpR op_eq (pv 4) pe_int (nomark _)) pe_int pe_int) pa_nil))))))
      (pss_cons (ps_par (i := 7) (j := 8) (by rfl) sc_law.nd rfl rfl (by decide) rfl rfl (pa_cons (pe_lst pa_nil) (pa_cons (pe_lst pa_nil) pa_nil)) (by rfl))
      (pss_cut (ps_for PassesOwn.never rfl (pi_range1 (by rfl) T.b_range (pa_cons (pv 2) pa_nil)) (pg_name (i := 5) sc_law.nd rfl (.inl rfl)) (pss_cons (ps_par (i := 9) (j := 10) (by rfl) sc_law.nd rfl rfl (by decide) rfl rfl (pa_cons (pe_op op_sub (pe_op op_fdiv (pe_ix ix_tup (pe_ix ix_tup (pv 3) (pv 5) (fun _ _ => rfl)) pe_int (fun _ _ => rfl)) (pe_ix ix_tup (pe_ix ix_tup (pv 3) (pv 5) (fun _ _ => rfl)) pe_int (fun _ _ => rfl))) (pe_c c_Lany hr (by decide) (by rfl) (pa_cons (pv 1) (pa_cons pe_int pa_nil)))) (pa_cons (pe_op op_add (pe_un un_neg (pe_op op_fdiv (pe_un un_neg (pe_ix ix_tup (pe_ix ix_tup (pv 3) (pv 5) (fun _ _ => rfl)) pe_int (fun _ _ => rfl))) (pe_ix ix_tup (pe_ix ix_tup (pv 3) (pv 5) (fun _ _ => rfl)) pe_int (fun _ _ => rfl)))) (pe_c c_Lany hr (by decide) (by rfl) (pa_cons (pv 1) (pa_cons pe_int pa_nil)))) pa_nil)) (by rfl))
        (pss_cons (ps_expr (pe_bm PySem.F.plainAttrs_list PySem.F.slot_list_append PySem.F.type_list_append mt_append (pv 7) (pa_cons (pe_tup (pa_cons (pe_op op_add_str (pe_ix ix_str pe_str (pv 5) (fun _ _ => rfl)) (pe_c c_Lof hr (by decide) (by rfl) (pa_cons (pv 1) (pa_cons (pe_lst (pa_cons pe_str (pa_cons pe_str (pa_cons pe_str pa_nil)))) pa_nil)))) (pa_cons (pv 9) (pa_cons (pv 10) pa_nil)))) pa_nil)))
        (pss_one (ps_expr (pe_bm PySem.F.plainAttrs_list PySem.F.slot_list_append PySem.F.type_list_append mt_append (pv 8) (pa_cons (pe_op op_sub (pe_c c_Lany hr (by decide) (by rfl) (pa_cons (pv 1) (pa_cons pe_int pa_nil))) pe_int) pa_nil)))))))
      (pss_cons (ps_par3 (i := 7) (j := 8) (l := 11) (by rfl) sc_law.nd rfl rfl rfl (by decide) (by decide) (by decide) rfl rfl rfl (pa_cons (pe_callTy call_tuple_of (by rfl) T.b_tuple (by decide +kernel) (pa_cons (pv 7) pa_nil)) (pa_cons (pe_callTy call_tuple_of (by rfl) T.b_tuple (by decide +kernel) (pa_cons (pv 8) pa_nil)) (pa_cons (pe_tup pa_nil) pa_nil))) (by rfl))
      (pss_cut (ps_setLc (i := 12) (own := [("turn", 26)]) rfl sc_law.nd rfl rfl (sw_true rfl rfl rfl (by decide +kernel)) (pi_range1 (by rfl) T.b_range (pa_cons (pe_c c_Lany hr (by decide) (by rfl) (pa_cons (pv 1) (pa_cons pe_int pa_nil))) pa_nil)) (blkOk_by (N := n_law) (sc := defScope s_law) (by decide +kernel)) (fun _ _ _ _ _ => (pg_name (i := 26) sc_law.nd rfl (.inl rfl))) (fun _ _ _ _ _ => pts_nil) (fun _ _ _ _ _ => (pe_c c_Lrow hr (by decide) (by rfl) (pa_cons (pv 1) (pa_cons (pv 6) (pa_cons (pv 3) pa_nil))))))
      (pss_cut (ps_set (i := 12) sc_law.nd rfl (.inl rfl) (pe_callTy call_tuple_of (by rfl) T.b_tuple (by decide +kernel) (pa_cons (pe_lc (own := [("row", 27)]) rfl sc_law.nd (pi_list (pv 12)) (blkOk_by (N := n_law) (sc := defScope s_law) (by decide +kernel)) (fun _ _ _ _ _ => (pg_name (i := 27) sc_law.nd rfl (.inl rfl))) (fun _ _ _ _ _ => (pts_one (pt_cmpR op_notN (pv 27) pe_non (nomark _)))) (fun _ _ _ _ _ => (pv 27))) pa_nil)))
      (pss_cut (ps_if (PW.pt (pw_and (pt_cmpR op_gt (pv 2) pe_int (nomark _)) (pw_and1 (pt_cmpR op_eq (pe_c c_Lany hr (by decide) (by rfl) (pa_cons (pv 1) (pa_cons pe_int pa_nil))) pe_int (nomark _))))) (pss_one (ps_set (i := 11) sc_law.nd rfl (.inl rfl) (pe_tup (pa_cons (pe_c c_Lof hr (by decide) (by rfl) (pa_cons (pv 1) (pa_cons (pe_lst (pa_cons (pe_tup (pa_cons pe_str (pa_cons (pe_tup (pa_cons pe_int (pa_cons pe_int pa_nil))) pa_nil))) (pa_cons (pe_tup (pa_cons pe_str (pa_cons (pe_tup (pa_cons (pe_tup (pa_cons pe_int (pa_cons pe_int pa_nil))) (pa_cons (pe_tup (pa_cons (pe_op op_sub (pv 2) pe_int) (pa_cons pe_int pa_nil))) pa_nil))) pa_nil))) (pa_cons (pe_tup (pa_cons pe_str (pa_cons (pe_tup (pa_cons pe_int pa_nil)) (pa_cons (pe_tup (pa_cons (pe_tup (pa_cons (pe_un un_neg pe_int) pa_nil)) (pa_cons (pe_tup (pa_cons pe_int pa_nil)) pa_nil))) pa_nil)))) pa_nil)))) pa_nil))) pa_nil)))) pss_nil)
      (pss_cons (ps_if (PW.pt (pw_or (pt_not (pt_val (pe_c c_Lkeeps hr (by decide) (by rfl) (pa_cons (pv 7) (pa_cons (pv 12) (pa_cons (pv 3) pa_nil)))))) (pw_or1 (pt_not (pt_val (pe_cG hgd c_Lright hr (by decide) (by rfl) (pa_cons (pv 7) (pa_cons (pv 12) (pa_cons (pv 11) (pa_cons (pv 8) (pa_cons (pv 3) pa_nil))))))))))) (pss_one (ps_ret pe_bl)) pss_nil)
      (pss_cons (ps_set (i := 13) sc_law.nd rfl (.inl rfl) (pe_mk m_Task hr (by decide) (by rfl) (pa_cons (pv 7) (pa_cons (pv 12) (pa_cons (pv 8) pa_nil)))))
      (pss_cons (ps_set (i := 14) sc_law.nd rfl (.inl rfl) (pe_cut (pe_callB (call_showN hgd hr.units) (by rfl) T.b_repr (by decide +kernel) (pa_cons (pe_c c_rounded_by_signs hr (by decide) (by rfl) (pa_cons (pv 13) (pa_cons (pv 3) pa_nil))) pa_nil))))
      (pss_cons (ps_par (i := 15) (j := 16) (by rfl) sc_law.nd rfl rfl (by decide) rfl rfl (pa_cons (pe_c c_Lany hr (by decide) (by rfl) (pa_cons (pv 1) (pa_cons (pv 2) pa_nil))) (pa_cons (pe_op op_add pe_int (pe_c c_Lany hr (by decide) (by rfl) (pa_cons (pv 1) (pa_cons pe_int pa_nil)))) pa_nil)) (by rfl))
      (pss_cut (ps_for PassesOwn.never rfl (pi_list (pe_lst (pa_cons pe_int (pa_cons (pe_un un_neg pe_int) pa_nil)))) (pg_name (i := 17) sc_law.nd rfl (.inl rfl)) (pss_cons (ps_set (i := 18) sc_law.nd rfl (.inl rfl) (pe_op op_rep (pe_lst (pa_cons pe_int pa_nil)) (pv 2)))
        (pss_cons (ps_asg (pe_op op_mul (pv 17) (pv 16)) (pg_sub (pv 18) (pv 15) set_list))
        (pss_cons (ps_set (i := 19) sc_law.nd rfl (.inl rfl) (pe_tup (pa_cons pe_str (pa_cons (pe_callTy call_tuple_of (by rfl) T.b_tuple (by decide +kernel) (pa_cons (pv 18) pa_nil)) (pa_cons pe_bl (pa_cons (pe_op op_fdiv (pe_c c_Ltotal hr (by decide) (by rfl) (pa_cons (pv 18) (pa_cons (pv 3) pa_nil))) pe_int) pa_nil))))))
        (pss_cons (ps_set (i := 20) sc_law.nd rfl (.inl rfl) (pe_c c_Lany hr (by decide) (by rfl) (pa_cons (pv 1) (pa_cons (pe_op op_add (pe_callB call_len_seq (by rfl) T.b_len (by decide +kernel) (pa_cons (pv 12) pa_nil)) pe_int) pa_nil))))
        (pss_cons (ps_if (pt_not (pt_val (pe_cG hgd c_Lright hr (by decide) (by rfl) (pa_cons (pv 7) (pa_cons (pe_op op_catA (pe_op op_catA (pe_slice sl_tupA (pv 12) po_none (po_some (pv 20))) (pe_tup (pa_cons (pv 19) pa_nil))) (pe_slice sl_tupA (pv 12) (po_some (pv 20)) po_none)) (pa_cons (pv 11) (pa_cons (pv 8) (pa_cons (pv 3) pa_nil)))))))) (pss_one (ps_ret pe_bl)) pss_nil)
        (pss_cons (ps_set (i := 21) sc_law.nd rfl (.inl rfl) (pe_tup (pa_cons pe_str (pa_cons (pe_callTy call_tuple_of (by rfl) T.b_tuple (by decide +kernel) (pa_cons (pe_lc (own := [("amount", 28)]) rfl sc_law.nd (pi_list (pv 18)) (blkOk_by (N := n_law) (sc := defScope s_law) (by decide +kernel)) (fun _ _ _ _ _ => (pg_name (i := 28) sc_law.nd rfl (.inl rfl))) (fun _ _ _ _ _ => pts_nil) (fun _ _ _ _ _ => (pe_op op_mul pe_int (pv 28)))) pa_nil)) (pa_cons pe_bl (pa_cons (pe_c c_Ltotal hr (by decide) (by rfl) (pa_cons (pv 18) (pa_cons (pv 3) pa_nil))) pa_nil))))))
        (pss_one (ps_if (pt_not (pt_val (pe_cG hgd c_Lright hr (by decide) (by rfl) (pa_cons (pv 7) (pa_cons (pe_op op_catA (pe_op op_catA (pe_slice sl_tupA (pv 12) po_none (po_some (pv 20))) (pe_tup (pa_cons (pv 21) pa_nil))) (pe_slice sl_tupA (pv 12) (po_some (pv 20)) po_none)) (pa_cons (pe_tup pa_nil) (pa_cons (pv 8) (pa_cons (pv 3) pa_nil)))))))) (pss_one (ps_ret pe_bl)) pss_nil)))))))))
      (pss_cons (ps_if (pt_not (pt_val (pe_cG hgd c_Lright hr (by decide) (by rfl) (pa_cons (pv 7) (pa_cons (pe_tup pa_nil) (pa_cons (pv 11) (pa_cons (pv 8) (pa_cons (pv 3) pa_nil)))))))) (pss_one (ps_ret pe_bl)) pss_nil)
      (pss_cons (ps_if (pt_not (pt_val (pe_cG hgd c_Lright hr (by decide) (by rfl) (pa_cons (pv 7) (pa_cons (pv 12) (pa_cons (pe_tup pa_nil) (pa_cons (pe_callTy call_tuple_of (by rfl) T.b_tuple (by decide +kernel) (pa_cons (pe_lc (own := [("one", 29)]) rfl sc_law.nd (pi_tup (pv 8)) (blkOk_by (N := n_law) (sc := defScope s_law) (by decide +kernel)) (fun _ _ _ _ _ => (pg_name (i := 29) sc_law.nd rfl (.inl rfl))) (fun _ _ _ _ _ => pts_nil) (fun _ _ _ _ _ => (pe_un un_neg (pv 29)))) pa_nil)) (pa_cons (pv 3) pa_nil)))))))) (pss_one (ps_ret pe_bl)) pss_nil)
      (pss_cons (ps_if (pt_cmpR (op_neD hr.units) (pe_c c_nearest_point hr (by decide) (by rfl) (pa_cons (pe_tup (pa_cons (pe_tup (pa_cons pe_int (pa_cons pe_int pa_nil))) (pa_cons (pe_tup (pa_cons (pe_un un_neg pe_int) (pa_cons pe_int pa_nil))) (pa_cons (pe_tup (pa_cons pe_int (pa_cons pe_int pa_nil))) (pa_cons (pe_tup (pa_cons (pe_un un_neg pe_int) (pa_cons pe_int pa_nil))) (pa_cons (pe_tup (pa_cons pe_int (pa_cons pe_int pa_nil))) (pa_cons (pe_tup (pa_cons (pe_un un_neg pe_int) (pa_cons pe_int pa_nil))) (pa_cons (pe_tup (pa_cons pe_int (pa_cons (pe_op op_pow pe_int pe_int) pa_nil))) pa_nil)))))))) pa_nil)) (pe_tup (pa_cons pe_int (pa_cons (pe_un un_neg pe_int) (pa_cons pe_int (pa_cons pe_int (pa_cons pe_int (pa_cons (pe_un un_neg pe_int) (pa_cons pe_int pa_nil)))))))) (nomark _)) (pss_one (ps_ret pe_bl)) pss_nil)
      (pss_cons (ps_set (i := 22) sc_law.nd rfl (.inl rfl) (pe_lst pa_nil))
      (pss_cut (ps_for PassesOwn.never rfl (pi_tup (pv 3)) (pg_tup rfl (pgs_cons (pg_name (i := 23) sc_law.nd rfl (.inl rfl)) (pgs_cons (pg_name (i := 24) sc_law.nd rfl (.inl rfl)) pgs_nil))) (pss_cons (ps_set (i := 25) sc_law.nd rfl (.inl rfl) (pe_op op_fdiv (pv 23) (pv 24)))
        (pss_one (ps_expr (pe_bm PySem.F.plainAttrs_list PySem.F.slot_list_append PySem.F.type_list_append mt_append (pv 22) (pa_cons (pe_op op_add (pv 25) (pe_ifExp (pt_cmpR op_gt (pe_op op_mul pe_int (pe_op op_sub (pv 23) (pe_op op_mul (pv 25) (pv 24)))) (pv 24) (nomark _)) pe_int pe_int)) pa_nil))))))
      (pss_one (ps_ret (pe_and (pe_cmpR op_eq (pe_callB (call_showN hgd hr.units) (by rfl) T.b_repr (by decide +kernel) (pa_cons (pe_kw k_nearest_point_start hr (by decide) (by rfl) (pk_cons (pv 3) pk_nil)) pa_nil)) (pe_callB (call_showN hgd hr.units) (by rfl) T.b_repr (by decide +kernel) (pa_cons (pe_callTy call_tuple_of (by rfl) T.b_tuple (by decide +kernel) (pa_cons (pv 22) pa_nil)) pa_nil)) (nomark _)) (pe_one (pe_cmpR op_eq (pe_cut (pe_callB (call_showN hgd hr.units) (by rfl) T.b_repr (by decide +kernel) (pa_cons (pe_c c_rounded_by_signs hr (by decide) (by rfl) (pa_cons (pv 13) (pa_cons (pv 3) pa_nil))) pa_nil))) (pv 14) (nomark _))))))))))))))))))))))))))), ?_⟩
    refine ⟨_, rfl, a, ns, rfl, hS, hlen, fun H1 h q s1 nh nq a1 => ?_⟩
    refine ⟨_, rfl, h, q, 6, rfl, a1, by decide, by decide, fun d H2 d0 d1 a2 kp2 => ⟨_, _, rfl, rfl, ?_⟩⟩
    obtain ⟨n, hn, n1, n6⟩ : ∃ n : Nat, 1 + d = (n : Int) ∧ 1 ≤ n ∧ n ≤ 6 := ⟨(1 + d).toNat, by omega, by omega, by omega⟩
    rw [show (fun i j => V.int (i + j)) (1 : Int) d = V.int (n : Int) from congrArg V.int hn]
    refine ⟨_, rfl, _, rfl, h, q, n, rfl, a2, by omega, fun H3 ps st sv lst f12 a3 kp3 => ?_⟩
    refine ⟨_, rfl, h, q, 3, rfl, a3, by decide, by decide, fun mo H4 m0 m1 a4 kp4 => ?_⟩
    have sv4 := sv.tk (TK.kp kp4 a3)
    refine ⟨_, rfl, (n : Int), rfl, by omega, by omega, fun D nD => ?_⟩
    obtain ⟨D1', D2'⟩ := a4.fresh nD
    refine lc_range (lo := 0) (n := ((n : Nat) : Int).toNat) (fun i H' => ∃ ks, H' D = some (tL ks) ∧ ks.length = i ∧ HpAt H' h q ∧ Kpt h q H4 H') ⟨[], upd_same, rfl, a4.upd D1' D2', .of_same (same_upd nD)⟩ (fun i H5 hi hI => ?_) (fun H5 hI => ?_)
    · obtain ⟨ks, eD, lk, a5, kp5⟩ := hI
      rw [Int.toNat_natCast] at hi
      have go : ∀ (c : Int) H6, HpAt H6 h q → Kpt h q H5 H6 → ∃ acc, H6 D = some (.lst acc) ∧ acc.length < sizeLine ∧ ∃ ks, upd H6 D (.lst (acc ++ [V.int c])) D = some (tL ks) ∧ ks.length = i + 1 ∧ HpAt (upd H6 D (.lst (acc ++ [V.int c]))) h q ∧ Kpt h q H4 (upd H6 D (.lst (acc ++ [V.int c]))) := fun c H6 a6 kp6 => by
        refine ⟨_, kp6 _ _ eD D1' D2', small1000 (by rw [List.length_map]; omega), ks ++ [c], ?_, by rw [List.length_append, lk]; rfl, a6.upd D1' D2', (kp5.trans kp6).at_new nD⟩
        rw [upd_same]
        show some (HO.lst _) = some (HO.lst ((ks ++ [c]).map V.int))
        rw [List.map_append]; rfl
      refine ⟨rfl, _, rfl, _, rfl, rfl, _, rfl, ite2 (fun _ => ?_) (fun _ => ?_)⟩
      · exact ⟨h, q, 4, rfl, a5, by decide, by decide, fun c H6 c0 c1 a6 kp6 => go c H6 a6 kp6⟩
      · exact ⟨h, q, 3, rfl, a5, by decide, by decide, fun c H6 c0 c1 a6 kp6 => go c H6 a6 kp6⟩
    rw [Int.toNat_natCast] at hI
    obtain ⟨ks, eD, lk, a5, kp5⟩ := hI
    have sv5 := sv4.tk (TK.kp kp5 a4)
    refine ⟨nil_ok, fun l1 nl1 => ⟨nil_ok, fun l2 nl2 => ⟨_, _, rfl, ?_⟩⟩⟩
    have g1 := a5.fresh nl1
    have j1 := a5.upd (o := .lst []) g1.1 g1.2
    have g2 := j1.fresh nl2
    have ne12 : l1 ≠ l2 := fun e => by rw [← e, upd_same] at nl2; cases nl2
    have AP : Ap H5 h q D l1 l2 := ⟨D1', D2', g1.1, g1.2, g2.1, g2.2, nl1, by rw [upd_ne ne12.symm] at nl2; exact nl2, ne12, ne_of_none eD nl1, fun e => by rw [upd_ne (fun z => ne12 z.symm), ← e, eD] at nl2; cases nl2⟩
    have sm2 : Same H5 (upd (upd H5 l1 (.lst [])) l2 (.lst [])) := (same_upd nl1).trans (same_upd nl2)
    have L0 : LoopA H5 (upd (upd H5 l1 (.lst [])) l2 (.lst [])) h q D l1 l2 ps ks [] [] [] st 0 := ⟨a5.same sm2, .of_same sm2, sm2 _ _ eD, by rw [upd_ne ne12]; exact upd_same, upd_same, .nil, sv5.same sm2, Ul.nil, rfl, rfl, fun k u f hu => by simp at hu⟩
    generalize upd (upd H5 l1 (.lst [])) l2 (.lst []) = H6 at *
    refine ⟨fun σ H' => ∃ y5 y9 y10 us ul goal, σ = sg (some (.ref a)) (some (.ref h)) (some (.int (n : Nat))) (some (.ref ps)) (some (.int mo)) y5 (some (.ref D)) (some (.ref l1)) (some (.ref l2)) y9 y10 none none none none none none none none none none none none none none none ∧ LoopA H5 H' h q D l1 l2 ps ks us ul goal st n, ?_, fun σ H7 hM => ?_⟩
    · refine ⟨_, rfl, (n : Int), rfl, by omega, by omega, for_range (lo := 0) (n := ((n : Nat) : Int).toNat) (fun i σ H' => ∃ y5 y9 y10 us ul goal, σ = sg (some (.ref a)) (some (.ref h)) (some (.int (n : Nat))) (some (.ref ps)) (some (.int mo)) y5 (some (.ref D)) (some (.ref l1)) (some (.ref l2)) y9 y10 none none none none none none none none none none none none none none none ∧ LoopA H5 H' h q D l1 l2 ps ks us ul goal st i)
        ⟨none, none, none, [], [], [], rfl, L0⟩ (fun i σ H7 hi hI => ?_) (fun σ H7 hI => by rw [Int.toNat_natCast] at hI; exact hI)⟩
      obtain ⟨y5, y9, y10, us, ul, goal, rfl, g⟩ := hI
      rw [Int.toNat_natCast] at hi
      rw [show ((0 : Int) + (i : Nat)) = (i : Int) by omega]
      have hf : st[i]? = some (st[i]'(by omega)) := List.getElem?_eq_getElem (by omega)
      have F12i := f12 _ (List.mem_of_getElem? hf)
      generalize st[i]'(by omega) = fr at *
      have f0 := F12i.pos
      have fle := F12i.le
      obtain ⟨ps', fs, eps, hps, fv⟩ := id g.sv
      cases eps
      obtain ⟨v, hv, pf, rfl, hpf⟩ := fv.at2 hf
      -- low and high
      refine ⟨_, rfl, _, rfl, ps, _, _, .ref pf, rfl, rfl, sq_tup hps, atI_nat hv, pf, _, 0, _, rfl, rfl, sq_tup hpf, rfl, _, rfl, _, rfl, ps, _, _, .ref pf, rfl, rfl, sq_tup hps, atI_nat hv, pf, _, 1, _, rfl, rfl, sq_tup hpf, rfl, _, _, rfl, rfl, ⟨f0, by omega⟩, ?_⟩
      refine ⟨_, rfl, h, q, 3, rfl, g.a, by decide, by decide, fun x1 H8 x10 x11 a8 kp8 => ⟨_, _, rfl, rfl, ?_⟩⟩
      have tk8 := TK.kp kp8 g.a
      have g := g.to AP kp8 a8
      have hps8 := tk8 _ _ hps
      have hpf8 := tk8 _ _ hpf
      refine ⟨_, rfl, _, rfl, ps, _, _, .ref pf, rfl, rfl, sq_tup hps8, atI_nat hv, pf, _, 0, _, rfl, rfl, sq_tup hpf8, rfl, _, rfl, _, rfl, _, rfl, ps, _, _, .ref pf, rfl, rfl, sq_tup hps8, atI_nat hv, pf, _, 1, _, rfl, rfl, sq_tup hpf8, rfl, _, _, rfl, rfl, ⟨f0, by omega⟩, _, rfl, ?_⟩
      refine ⟨_, rfl, h, q, 3, rfl, g.a, by decide, by decide, fun x2 H9 x20 x21 a9 kp9 => ⟨_, _, rfl, rfl, _, _, rfl, ?_⟩⟩
      have g := g.to AP kp9 a9
      show tSeq _ _ _ (((_ : L2.St).set 9 (some (.int (fr.1 / fr.2 - x1)))).set 10 (some (.int (-((-fr.1) / fr.2) + x2)))) _
      have hU : ∀ nm : Str, UN (nm, fr.1 / fr.2 - x1, -((-fr.1) / fr.2) + x2) fr := fun nm => ⟨show fr.1 / fr.2 - x1 ≤ fr.1 / fr.2 by omega, show -((-fr.1) / fr.2) ≤ -((-fr.1) / fr.2) + x2 by omega⟩
      generalize fr.1 / fr.2 - x1 = low at *
      generalize -((-fr.1) / fr.2) + x2 = high at *
      have hle : low ≤ high := (hU "").le f0
      -- the name
      refine ⟨_, rfl, .inl ⟨rfl, _, sq_lst g.e1⟩, _, rfl, ("bdfhjl" : Str), (i : Int), letterC i, rfl, rfl, by decide, atI_nat (at_letter ⟨i, by omega⟩), ?_⟩
      refine ⟨_, rfl, len3, fun p np => ?_⟩
      have k1 := same_upd (o := .lst [.str "", .str "a", .str "zzzzz"]) np
      obtain ⟨f1, f2⟩ := g.a.fresh np
      have g := g.to AP (.of_same k1) (g.a.same k1)
      refine ⟨h, q, p, _, rfl, g.a, upd_same, f1, f2, by simp, by show 3 ≤ 1000; decide, fun v10 H10 m10 a10 kp10 => ?_⟩
      have g := g.to AP kp10 a10
      obtain ⟨e, he, rfl⟩ : ∃ e : Nat, e < 3 ∧ v10 = V.str (suff e) := by
        rcases List.mem_cons.mp m10 with z | z
        · exact ⟨0, by decide, z⟩
        rcases List.mem_cons.mp z with z | z
        · exact ⟨1, by decide, z⟩
        · exact ⟨2, by decide, List.mem_singleton.mp z⟩
      refine ⟨_, _, rfl, rfl, ?_, ?_⟩
      · have := suff_len ⟨e, he⟩
        rw [sizeLine_eq]
        show 1 + (suff e).length ≤ _
        have e2 : (suff (⟨e, he⟩ : Fin 3).val) = suff e := rfl
        rw [e2] at this
        omega
      rw [show (⟨#[letterC i]⟩ : Str) ++ suff e = nmOf i e from rfl]
      refine ⟨_, rfl, _, rfl, len3, fun t nt => ?_⟩
      have kt := same_upd (o := .tup [.str (nmOf i e), .int low, .int high]) nt
      have g := g.to AP (.of_same kt) (g.a.same kt)
      have et : upd H10 t (.tup [.str (nmOf i e), .int low, .int high]) t = some (.tup [.str (nmOf i e), .int low, .int high]) := upd_same
      generalize upd H10 t (.tup [.str (nmOf i e), .int low, .int high]) = H11 at *
      have lus := g.uv.len
      have lul := g.lu
      have lgl := g.lg
      obtain ⟨q1, q2, q3, q4, q5, q6, q7, q8, q9, q10⟩ := g.app1 AP et he hf (hU _) hle
      refine ⟨l1, _, _, rfl, rfl, g.e1, small1000 (by omega), ?_⟩
      generalize upd H11 l1 (.lst (us ++ [.ref t])) = H12 at *
      refine ⟨_, rfl, .inl ⟨rfl, _, sq_lst q5⟩, _, rfl, h, q, 9, rfl, q1, by decide, by decide, fun x3 H13 x30 x31 a13 kp13 => ⟨_, _, rfl, rfl, ?_⟩⟩
      have tk13 := TK.kp kp13 q1
      have e13 := kp13 _ _ q5 AP.b1 AP.b2
      refine ⟨l2, _, _, rfl, rfl, e13, small1000 (by rw [List.length_map]; omega), ?_⟩
      have tk14 := tk13.trans (TK.put (o := .lst (goal.map V.int ++ [V.int (x3 - 4)])) e13)
      refine ⟨_, _, _, us ++ [.ref t], ul ++ [(nmOf i e, low, high)], goal ++ [x3 - 4], rfl, a13.upd AP.b1 AP.b2, (q2.trans kp13).at_new AP.n2, ?_, ?_, ?_, q6.tk tk14, q7.tk tk14, q8, q9, by rw [List.length_append, lgl]; rfl, q10⟩
      · show upd _ _ _ _ = _
        rw [upd_ne AP.nd2]; exact kp13 _ _ q3 AP.d1 AP.d2
      · show upd _ _ _ _ = _
        rw [upd_ne AP.ne]; exact kp13 _ _ q4 AP.a1 AP.a2
      · show upd _ _ _ _ = some (HO.lst ((goal ++ [x3 - 4]).map V.int))
        rw [upd_same, List.map_append]; rfl
    obtain ⟨y5, y9, y10, us, ul, goal, rfl, g⟩ := hM
    have lus := g.uv.len
    have lul := g.lu
    have lgl := g.lg
    refine ⟨_, rfl, l1, us, rfl, .inl ⟨sq_lst g.e1, fun pu npu => ?_⟩⟩
    have k8 := same_upd (o := .tup us) npu
    refine ⟨_, rfl, l2, _, rfl, .inl ⟨sq_lst (k8 _ _ g.e2), fun pg npg => ?_⟩⟩
    have k9 := same_upd (o := .tup (goal.map V.int)) npg
    refine ⟨nil_ok, fun po npo => ⟨_, _, _, rfl, ?_⟩⟩
    have k10 := same_upd (o := .tup []) npo
    have k810 := (k8.trans k9).trans k10
    have lsn : st.length = n := lst
    have N : Nums n st ul goal := ⟨n1, n6, lsn, lul, lgl, f12, g.u.ok (by omega) (by omega), g.un⟩
    have d1 : D1 (upd (upd (upd H7 pu (.tup us)) pg (.tup (goal.map V.int))) po (.tup [])) h q ps pu pg st ul goal := ⟨g.a.same k810, g.sv.same k810, ⟨pu, us, rfl, (k9.trans k10) _ _ upd_same, g.uv.same k810⟩, ⟨pg, rfl, k10 _ _ upd_same⟩⟩
    have ov0 : OV (upd (upd (upd H7 pu (.tup us)) pg (.tup (goal.map V.int))) po (.tup [])) (.ref po) [] := ⟨po, [], rfl, upd_same, .nil⟩
    have eD8 := k810 _ _ g.eD
    generalize upd (upd (upd H7 pu (.tup us)) pg (.tup (goal.map V.int))) po (.tup []) = H8 at *
    -- rows, some of them None
    refine ⟨fun σ H' => ∃ p0 vs os, σ = sg (some (.ref a)) (some (.ref h)) (some (.int (n : Nat))) (some (.ref ps)) (some (.int mo)) y5 (some (.ref D)) (some (.ref pu)) (some (.ref pg)) y9 y10 (some (.ref po)) (some (.ref p0)) none none none none none none none none none none none none none ∧ H' p0 = some (.lst vs) ∧ All2 (RO H') vs os ∧ (∀ r, some r ∈ os → Good n st r) ∧ os.length ≤ 6 ∧ D1 H' h q ps pu pg st ul goal ∧ OV H' (.ref po) [], ?_, fun σ H9 hM => ?_⟩
    · refine ⟨_, rfl, h, q, 6, rfl, d1.a, by decide, by decide, fun m H9 m0 m1 a9 kp9 => ⟨m, rfl, by omega, by omega, fun D2 nD2 => ?_⟩⟩
      have d9 := d1.to kp9 a9
      have ov9 := ov0.tk (TK.kp kp9 d1.a)
      have eD9 := kp9 _ _ eD8 D1' D2'
      obtain ⟨x1, x2⟩ := a9.fresh nD2
      have nD : D ≠ D2 := ne_of_none eD9 nD2
      refine lc_range (lo := 0) (n := m.toNat) (fun i H' => ∃ vs os, H' D2 = some (.lst vs) ∧ All2 (RO H') vs os ∧ (∀ r, some r ∈ os → Good n st r) ∧ os.length = i ∧ HpAt H' h q ∧ Kpt h q H9 H') ⟨[], [], upd_same, .nil, by simp, rfl, a9.upd x1 x2, .of_same (same_upd nD2)⟩ (fun i H10 hi hI => ?_) (fun H10 hI => ?_)
      · obtain ⟨vs, os, e2, al, gd, lo, a10, kp10⟩ := hI
        have la := al.len
        have go : ∀ (v : V) (o : Option Row) H11, RO H11 v o → (∀ r, o = some r → Good n st r) → HpAt H11 h q → Kpt h q H10 H11 → ∃ acc, H11 D2 = some (.lst acc) ∧ acc.length < sizeLine ∧ ∃ vs os, upd H11 D2 (.lst (acc ++ [v])) D2 = some (.lst vs) ∧ All2 (RO (upd H11 D2 (.lst (acc ++ [v])))) vs os ∧ (∀ r, some r ∈ os → Good n st r) ∧ os.length = i + 1 ∧ HpAt (upd H11 D2 (.lst (acc ++ [v]))) h q ∧ Kpt h q H9 (upd H11 D2 (.lst (acc ++ [v]))) := fun v o H11 ro gr a11 kp11 => by
          have e11 := kp11 _ _ e2 x1 x2
          have tk11 := (TK.kp kp11 a10).trans (TK.put (o := .lst (vs ++ [v])) e11)
          refine ⟨vs, e11, small1000 (by omega), vs ++ [v], os ++ [o], upd_same, (al.mono fun v x k => k.tk tk11).app (ro.tk (TK.put e11)), fun r hr' => ?_, by rw [List.length_append, lo]; rfl, a11.upd x1 x2, (kp10.trans kp11).at_new nD2⟩
          rcases List.mem_append.mp hr' with z | z
          · exact gd r z
          · exact gr r (List.mem_singleton.mp z).symm
        have tk10 := TK.kp kp10 a9
        refine ⟨rfl, _, rfl, _, rfl, _, rfl, h, q, D, .ref ps, ks, st, rfl, a10, kp10 _ _ eD9 D1' D2', D1', D2', d9.sv.tk tk10, by omega, by omega, f12, fun H11 a11 kp11 => ?_, fun H11 v r rv gr a11 kp11 => ?_⟩
        · exact go .non none H11 rfl (fun r z => by cases z) a11 kp11
        · exact go v (some r) H11 rv (fun r' z => by cases z; rw [← lsn]; exact gr) a11 kp11
      · obtain ⟨vs, os, e2, al, gd, lo, a10, kp10⟩ := hI
        exact ⟨D2, vs, os, rfl, e2, al, gd, by omega, d9.to kp10 a10, ov9.tk (TK.kp kp10 a9)⟩
    obtain ⟨p0, vs, os, rfl, e0, al, gd, lo, d9, ov9⟩ := hM
    have la := al.len
    refine ⟨fun σ H' => ∃ pr rl, σ = sg (some (.ref a)) (some (.ref h)) (some (.int (n : Nat))) (some (.ref ps)) (some (.int mo)) y5 (some (.ref D)) (some (.ref pu)) (some (.ref pg)) y9 y10 (some (.ref po)) (some (.ref pr)) none none none none none none none none none none none none none ∧ RsV H' (.ref pr) rl ∧ (∀ r ∈ rl, Good n st r) ∧ rl.length ≤ 6 ∧ D1 H' h q ps pu pg st ul goal ∧ OV H' (.ref po) [], ?_, fun σ H10 hM => ?_⟩
    · refine ⟨_, rfl, p0, rfl, ⟨_, sq_lst e0⟩, fun D3 nD3 => ?_⟩
      refine lc_list (K := K) (a := p0) (xs := vs) (fun i H' => ∃ ws rl, H' D3 = some (.lst ws) ∧ All2 (RV H') ws rl ∧ (∀ r ∈ rl, some r ∈ os) ∧ rl.length ≤ i ∧ Same H9 H') ⟨[], [], upd_same, .nil, by simp, Nat.le_refl _, same_upd nD3⟩ (fun i H' _ h => by obtain ⟨_, _, _, _, _, _, sm⟩ := h; exact sq_lst (sm _ _ e0)) ?_ ?_
      · rintro i v H10 hv ⟨ws, rl, e3, al3, mr, lr, sm⟩
        obtain ⟨o, ho, ro⟩ := al.at_ hv
        have li : i < os.length := (List.getElem?_eq_some_iff.mp ho).1
        cases o with
        | none =>
          have ev : v = .non := ro
          subst ev
          exact ⟨rfl, _, rfl, rfl, _, rfl, ite2 (fun h => absurd h (by simp)) (fun _ => ⟨ws, rl, e3, al3, mr, by omega, sm⟩)⟩
        | some r =>
          have rv : RV H9 v r := ro
          obtain ⟨p, qa, rfl, hp, hqa⟩ := id rv
          have tk := (TK.of sm).trans (TK.put (o := .lst (ws ++ [.ref p])) e3)
          have l3 := al3.len
          refine ⟨rfl, _, rfl, rfl, _, rfl, ite2 (fun _ => ?_) (fun h => absurd (by simp) h)⟩
          refine ⟨_, rfl, ws, e3, small1000 (by omega), ws ++ [.ref p], rl ++ [r], upd_same, (al3.mono fun v x k => k.tk (TK.put e3)).app (rv.tk tk), fun r' hr' => ?_, by rw [List.length_append]; show rl.length + 1 ≤ _; omega, same_at sm nD3⟩
          rcases List.mem_append.mp hr' with z | z
          · exact mr r' z
          · rw [List.mem_singleton.mp z]; exact List.mem_of_getElem? ho
      · rintro H10 ⟨ws, rl, e3, al3, mr, lr, sm⟩
        refine ⟨D3, _, rfl, .inl ⟨sq_lst e3, fun pr npr => ?_⟩⟩
        have k1 := same_upd (o := .tup ws) npr
        exact ⟨pr, rl, rfl, ⟨pr, ws, rfl, upd_same, al3.mono fun v x k => k.tk (.of k1)⟩, fun r hr' => gd r (mr r hr'), by omega, d9.same (sm.trans k1), ov9.tk (.of (sm.trans k1))⟩
    obtain ⟨pr, rl, rfl, rv, gr, lr, d10, ov10⟩ := hM
    -- other wishes
    refine ⟨fun σ H' => ∃ po ow, σ = sg (some (.ref a)) (some (.ref h)) (some (.int (n : Nat))) (some (.ref ps)) (some (.int mo)) y5 (some (.ref D)) (some (.ref pu)) (some (.ref pg)) y9 y10 (some (.ref po)) (some (.ref pr)) none none none none none none none none none none none none none ∧ RsV H' (.ref pr) rl ∧ D1 H' h q ps pu pg st ul goal ∧ OV H' (.ref po) ow ∧ ow.length ≤ 5 ∧ sumsOf ow = [] ∧ ∀ x ∈ ow, WishOk n x, ?_, fun σ H11 hM => ?_⟩
    · have next : ∀ H12, HpAt H12 h q → Kpt h q H10 H12 → (fun σ H' => ∃ po ow, σ = sg (some (.ref a)) (some (.ref h)) (some (.int (n : Nat))) (some (.ref ps)) (some (.int mo)) y5 (some (.ref D)) (some (.ref pu)) (some (.ref pg)) y9 y10 (some (V.ref po)) (some (.ref pr)) none none none none none none none none none none none none none ∧ RsV H' (.ref pr) rl ∧ D1 H' h q ps pu pg st ul goal ∧ OV H' (.ref po) ow ∧ ow.length ≤ 5 ∧ sumsOf ow = [] ∧ ∀ x ∈ ow, WishOk n x) (sg (some (.ref a)) (some (.ref h)) (some (.int (n : Nat))) (some (.ref ps)) (some (.int mo)) y5 (some (.ref D)) (some (.ref pu)) (some (.ref pg)) y9 y10 (some (.ref po)) (some (.ref pr)) none none none none none none none none none none none none none) H12 := fun H12 a12 kp12 =>
        ⟨po, [], rfl, rv.tk (TK.kp kp12 d10.a), d10.to kp12 a12, ov10.tk (TK.kp kp12 d10.a), by decide, rfl, by simp⟩
      refine ⟨_, rfl, _, _, rfl, rfl, _, rfl, ite2 (fun hn1 => ?_) (fun _ => next _ d10.a (.refl _ _ _))⟩
      have hn1 : 1 < n := by have := of_decide_eq_true hn1; omega
      refine ⟨_, rfl, h, q, 3, rfl, d10.a, by decide, by decide, fun x0 H11 x00 x01 a11 kp11 => ⟨rfl, _, rfl, ite2 (fun _ => ?_) (fun _ => next _ a11 kp11)⟩⟩
      have d11 := d10.to kp11 a11
      have rv11 := rv.tk (TK.kp kp11 d10.a)
      refine ⟨_, rfl, ?_⟩
      have h20 : H11 = H11 := rfl
      refine ⟨len2, fun t1 nt1 => ?_⟩
      have yt1 := same_upd (o := .tup [.int 0, .int 1]) nt1
      have zt1 : upd H11 t1 (.tup [.int 0, .int 1]) t1 = some (.tup [.int 0, .int 1]) := upd_same
      have yyt1 := yt1
      generalize upd H11 t1 (.tup [.int 0, .int 1]) = HT0 at *
      refine ⟨len2, fun t2 nt2 => ?_⟩
      have yt2 := same_upd (o := .tup [.str "unlike", .ref t1]) nt2
      have zt2 : upd HT0 t2 (.tup [.str "unlike", .ref t1]) t2 = some (.tup [.str "unlike", .ref t1]) := upd_same
      have yyt2 := yyt1.trans yt2
      have zt1 := yt2 _ _ zt1
      generalize upd HT0 t2 (.tup [.str "unlike", .ref t1]) = HT1 at *
      refine ⟨len2, fun t3 nt3 => ?_⟩
      have yt3 := same_upd (o := .tup [.int 0, .int 2]) nt3
      have zt3 : upd HT1 t3 (.tup [.int 0, .int 2]) t3 = some (.tup [.int 0, .int 2]) := upd_same
      have yyt3 := yyt2.trans yt3
      have zt1 := yt3 _ _ zt1
      have zt2 := yt3 _ _ zt2
      generalize upd HT1 t3 (.tup [.int 0, .int 2]) = HT2 at *
      refine ⟨_, rfl, _, _, rfl, rfl, len2, fun t4 nt4 => ?_⟩
      have yt4 := same_upd (o := .tup [.int ((n : Int) - 1), .int 1]) nt4
      have zt4 : upd HT2 t4 (.tup [.int ((n : Int) - 1), .int 1]) t4 = some (.tup [.int ((n : Int) - 1), .int 1]) := upd_same
      have yyt4 := yyt3.trans yt4
      have zt1 := yt4 _ _ zt1
      have zt2 := yt4 _ _ zt2
      have zt3 := yt4 _ _ zt3
      generalize upd HT2 t4 (.tup [.int ((n : Int) - 1), .int 1]) = HT3 at *
      refine ⟨len2, fun t5 nt5 => ?_⟩
      have yt5 := same_upd (o := .tup [.ref t3, .ref t4]) nt5
      have zt5 : upd HT3 t5 (.tup [.ref t3, .ref t4]) t5 = some (.tup [.ref t3, .ref t4]) := upd_same
      have yyt5 := yyt4.trans yt5
      have zt1 := yt5 _ _ zt1
      have zt2 := yt5 _ _ zt2
      have zt3 := yt5 _ _ zt3
      have zt4 := yt5 _ _ zt4
      generalize upd HT3 t5 (.tup [.ref t3, .ref t4]) = HT4 at *
      refine ⟨len2, fun t6 nt6 => ?_⟩
      have yt6 := same_upd (o := .tup [.str "bench", .ref t5]) nt6
      have zt6 : upd HT4 t6 (.tup [.str "bench", .ref t5]) t6 = some (.tup [.str "bench", .ref t5]) := upd_same
      have yyt6 := yyt5.trans yt6
      have zt1 := yt6 _ _ zt1
      have zt2 := yt6 _ _ zt2
      have zt3 := yt6 _ _ zt3
      have zt4 := yt6 _ _ zt4
      have zt5 := yt6 _ _ zt5
      generalize upd HT4 t6 (.tup [.str "bench", .ref t5]) = HT5 at *
      refine ⟨len1, fun t7 nt7 => ?_⟩
      have yt7 := same_upd (o := .tup [.int 1]) nt7
      have zt7 : upd HT5 t7 (.tup [.int 1]) t7 = some (.tup [.int 1]) := upd_same
      have yyt7 := yyt6.trans yt7
      have zt1 := yt7 _ _ zt1
      have zt2 := yt7 _ _ zt2
      have zt3 := yt7 _ _ zt3
      have zt4 := yt7 _ _ zt4
      have zt5 := yt7 _ _ zt5
      have zt6 := yt7 _ _ zt6
      generalize upd HT5 t7 (.tup [.int 1]) = HT6 at *
      refine ⟨_, rfl, len1, fun t8 nt8 => ?_⟩
      have yt8 := same_upd (o := .tup [.int (-3)]) nt8
      have zt8 : upd HT6 t8 (.tup [.int (-3)]) t8 = some (.tup [.int (-3)]) := upd_same
      have yyt8 := yyt7.trans yt8
      have zt1 := yt8 _ _ zt1
      have zt2 := yt8 _ _ zt2
      have zt3 := yt8 _ _ zt3
      have zt4 := yt8 _ _ zt4
      have zt5 := yt8 _ _ zt5
      have zt6 := yt8 _ _ zt6
      have zt7 := yt8 _ _ zt7
      generalize upd HT6 t8 (.tup [.int (-3)]) = HT7 at *
      refine ⟨len1, fun t9 nt9 => ?_⟩
      have yt9 := same_upd (o := .tup [.int 5]) nt9
      have zt9 : upd HT7 t9 (.tup [.int 5]) t9 = some (.tup [.int 5]) := upd_same
      have yyt9 := yyt8.trans yt9
      have zt1 := yt9 _ _ zt1
      have zt2 := yt9 _ _ zt2
      have zt3 := yt9 _ _ zt3
      have zt4 := yt9 _ _ zt4
      have zt5 := yt9 _ _ zt5
      have zt6 := yt9 _ _ zt6
      have zt7 := yt9 _ _ zt7
      have zt8 := yt9 _ _ zt8
      generalize upd HT7 t9 (.tup [.int 5]) = HT8 at *
      refine ⟨len2, fun t10 nt10 => ?_⟩
      have yt10 := same_upd (o := .tup [.ref t8, .ref t9]) nt10
      have zt10 : upd HT8 t10 (.tup [.ref t8, .ref t9]) t10 = some (.tup [.ref t8, .ref t9]) := upd_same
      have yyt10 := yyt9.trans yt10
      have zt1 := yt10 _ _ zt1
      have zt2 := yt10 _ _ zt2
      have zt3 := yt10 _ _ zt3
      have zt4 := yt10 _ _ zt4
      have zt5 := yt10 _ _ zt5
      have zt6 := yt10 _ _ zt6
      have zt7 := yt10 _ _ zt7
      have zt8 := yt10 _ _ zt8
      have zt9 := yt10 _ _ zt9
      generalize upd HT8 t10 (.tup [.ref t8, .ref t9]) = HT9 at *
      refine ⟨len3, fun t11 nt11 => ?_⟩
      have yt11 := same_upd (o := .tup [.str "table", .ref t7, .ref t10]) nt11
      have zt11 : upd HT9 t11 (.tup [.str "table", .ref t7, .ref t10]) t11 = some (.tup [.str "table", .ref t7, .ref t10]) := upd_same
      have yyt11 := yyt10.trans yt11
      have zt1 := yt11 _ _ zt1
      have zt2 := yt11 _ _ zt2
      have zt3 := yt11 _ _ zt3
      have zt4 := yt11 _ _ zt4
      have zt5 := yt11 _ _ zt5
      have zt6 := yt11 _ _ zt6
      have zt7 := yt11 _ _ zt7
      have zt8 := yt11 _ _ zt8
      have zt9 := yt11 _ _ zt9
      have zt10 := yt11 _ _ zt10
      generalize upd HT9 t11 (.tup [.str "table", .ref t7, .ref t10]) = HT10 at *
      refine ⟨len3, fun t12 nt12 => ?_⟩
      have yt12 := same_upd (o := .lst [.ref t2, .ref t6, .ref t11]) nt12
      have zt12 : upd HT10 t12 (.lst [.ref t2, .ref t6, .ref t11]) t12 = some (.lst [.ref t2, .ref t6, .ref t11]) := upd_same
      have yyt12 := yyt11.trans yt12
      have zt1 := yt12 _ _ zt1
      have zt2 := yt12 _ _ zt2
      have zt3 := yt12 _ _ zt3
      have zt4 := yt12 _ _ zt4
      have zt5 := yt12 _ _ zt5
      have zt6 := yt12 _ _ zt6
      have zt7 := yt12 _ _ zt7
      have zt8 := yt12 _ _ zt8
      have zt9 := yt12 _ _ zt9
      have zt10 := yt12 _ _ zt10
      have zt11 := yt12 _ _ zt11
      obtain ⟨f1, f2⟩ := (a11.same yyt11).fresh nt12
      generalize upd HT10 t12 (.lst [.ref t2, .ref t6, .ref t11]) = HT11 at *
      have a12 := a11.same yyt12
      refine ⟨h, q, t12, _, rfl, a12, zt12, f1, f2, by simp, by show 3 ≤ 1000; decide, fun v H13 m13 a13 kp13 => ?_⟩
      have tk13 := TK.kp kp13 a12
      have d13 := (d11.same yyt12).to kp13 a13
      have rv13 := (rv11.tk (.of yyt12)).tk tk13
      obtain ⟨wi, wv, wok, ws⟩ : ∃ wi, WV H13 v wi ∧ WishOk n wi ∧ sumsOf [wi] = [] := by
        rcases List.mem_cons.mp m13 with rfl | m13
        · exact ⟨.unlike [0, 1], ⟨t2, _, rfl, tk13 _ _ zt2, t1, rfl, tk13 _ _ zt1⟩, unlike_ok hn1, rfl⟩
        rcases List.mem_cons.mp m13 with rfl | m13
        · exact ⟨.bench [[0, 2], [(n : Int) - 1, 1]], ⟨t6, _, rfl, tk13 _ _ zt6, t5, _, rfl, tk13 _ _ zt5, .cons ⟨t3, rfl, tk13 _ _ zt3⟩ (.cons ⟨t4, rfl, tk13 _ _ zt4⟩ .nil)⟩, bench_ok hn1, rfl⟩
        · rw [List.mem_singleton.mp m13]
          exact ⟨.table [1] [[-3], [5]], ⟨t11, _, _, rfl, tk13 _ _ zt11, ⟨t7, rfl, tk13 _ _ zt7⟩, t10, _, rfl, tk13 _ _ zt10, .cons ⟨t8, rfl, tk13 _ _ zt8⟩ (.cons ⟨t9, rfl, tk13 _ _ zt9⟩ .nil)⟩, table_ok hn1, rfl⟩
      refine ⟨len1, fun t13 n13 => ?_⟩
      have y13 := same_upd (o := .tup [v]) n13
      exact ⟨t13, [wi], rfl, rv13.tk (.of y13), d13.same y13, ⟨t13, [v], rfl, upd_same, .cons (wv.same y13) .nil⟩, show 1 ≤ 5 by decide, ws, fun x hx => by rw [List.mem_singleton.mp hx]; exact wok⟩
    obtain ⟨po', ow, rfl, rv, d11, ov, ol, os0, ook⟩ := hM
    have ln6 : n ≤ 6 := n6
    have W1 := N.want gr (by omega) ol os0 ook N.lg
    have bf : ∀ f ∈ st, 0 < f.2 ∧ f.2 ≤ 12 := fun f hf => ⟨(f12 f hf).pos, (f12 f hf).le⟩
    have lam : ∀ r ∈ rl, r.am.length = ul.length := fun r hr' => by rw [(gr r hr').ok.len, lul]
    refine ⟨_, rfl, _, rfl, _, rfl, .ref pu, .ref pr, .ref ps, ul, rl, st, rfl, d11.us, rv, d11.sv.sa, by omega, (fun r hr' => ⟨lam r hr', (gr r hr').ok.bd⟩), by omega, bf, (fun k u f hu hf => (N.un k u f hu hf).keep (f12 f (List.mem_of_getElem? hf)).pos), (fun r hr' => ⟨(gr r hr').ge, (gr r hr').eq⟩), fun H12 s12 => ⟨true, rfl, iteF ?_⟩⟩
    have d12 := d11.same s12
    have rv12 := rv.tk (.of s12)
    have ov12 := ov.tk (.of s12)
    refine ⟨_, rfl, _, rfl, _, rfl, _, rfl, _, rfl, .ref pu, .ref pr, .ref po', .ref pg, .ref ps, ul, rl, ow, goal, st, rfl, d12.us, rv12, ov12, d12.lg, d12.sv, W1, fun H13 s13 => ⟨true, rfl, iteF ?_⟩⟩
    have d13 := d12.same s13
    have rv13 := rv12.tk (.of s13)
    have ov13 := ov12.tk (.of s13)
    -- first
    obtain ⟨pu', us', eu, hpu, uvs⟩ := id d13.us
    cases eu
    obtain ⟨pr', rs', er, hpr, rvs⟩ := id rv13
    cases er
    obtain ⟨pg', eg, hpg⟩ := id d13.lg
    cases eg
    refine ⟨_, rfl, _, rfl, _, rfl, fun x dx nx ndx nxd => ?_⟩
    have y6 := same_upd (o := .own x) ndx
    have nx6 : upd H13 dx (.own x) x = none := by rw [upd_ne nxd.symm]; exact nx
    have y7 := y6.trans (same_upd (o := .ins C dx []) nx6)
    have z7 : upd (upd H13 dx (.own x)) x (.ins C dx []) x = some (.ins C dx []) := upd_same
    generalize upd (upd H13 dx (.own x)) x (.ins C dx []) = HC at *
    refine ⟨x, dx, pu, pr, pg, us', rs', ul, rl.map .sum, goal, rfl, z7, y7 _ _ hpu, uvs.same y7, y7 _ _ hpr, (wvs_rows rvs).same y7, y7 _ _ hpg, N.u, (fun z hz => by
      obtain ⟨r, hr', rfl⟩ := List.mem_map.mp hz
      exact ⟨by rw [lul]; exact (gr r hr').ok, by omega⟩), by omega, fun HD sD => ⟨rfl, ?_⟩⟩
    have tBE : Same H13 (upd HD x (.ins C dx [("unknowns", .ref pu), ("wishes", .ref pr), ("goal", .ref pg)])) := same_at (y7.trans sD) nx
    have ex : upd HD x (.ins C dx [("unknowns", .ref pu), ("wishes", .ref pr), ("goal", .ref pg)]) x = some (.ins C dx [("unknowns", .ref pu), ("wishes", .ref pr), ("goal", .ref pg)]) := upd_same
    generalize upd HD x (.ins C dx [("unknowns", .ref pu), ("wishes", .ref pr), ("goal", .ref pg)]) = H14 at *
    have D14 : D2 C H14 h q ps pu pg pr po' x st ul goal rl ow := ⟨d13.same tBE, rv13.tk (.of tBE), ov13.tk (.of tBE), ⟨x, dx, pu, pr, pg, us', rs', rfl, ex, tBE _ _ hpu, uvs.same tBE, tBE _ _ hpr, (wvs_rows rvs).same tBE, tBE _ _ hpg⟩⟩
    -- kept
    have fo : ∀ f ∈ st, FrOk f := fun f hf => (f12 f hf).ok
    have lamS : ∀ r ∈ sumsOf (rl.map .sum), r.am.length = ul.length := fun r hr' => by rw [sumsOf_map] at hr'; exact lam r hr'
    refine ⟨fun v H' => v = .str (shownR (rndN (rsOf st rl goal) ul.length)) ∧ Same H14 H', ?_, ?_⟩
    · refine ⟨_, rfl, _, rfl, .ref x, .ref ps, ul, rl.map .sum, goal, st, rfl, D14.tv, D14.d.sv, by rw [List.length_map]; omega, by omega, lamS, by omega, by omega, fo, fun H15 q15 l s15 el hq => ?_, fun H15 s15 en => ?_⟩
      · rw [sumsOf_map] at el
        obtain ⟨b1, b2⟩ := N.bound gr (by omega) el
        exact shownI ⟨q15, rfl, hq⟩ b2 b1 ⟨by rw [el]; rfl, s15⟩
      · rw [sumsOf_map] at en
        exact .inr ⟨rfl, by rw [en]; rfl, s15⟩
    rintro v H15 ⟨rfl, s15⟩
    have D15 := D14.same s15
    -- at, size
    refine ⟨_, rfl, _, rfl, h, q, (n : Int), rfl, D15.d.a, by omega, by omega, fun at0 H16 t0 t1 a16 kp16 => ⟨_, rfl, h, q, 3, rfl, a16, by decide, by decide, fun sz H17 z0 z1 a17 kp17 => ⟨_, _, rfl, rfl, _, _, rfl, ?_⟩⟩⟩
    have D17 := (D15.to kp16 a16).to kp17 a17
    obtain ⟨k0, ek0, lk0⟩ : ∃ k0 : Nat, at0 = (k0 : Int) ∧ k0 < n := ⟨at0.toNat, by omega, by omega⟩
    subst ek0
    have hz1 : 1 ≤ 1 + sz ∧ 1 + sz ≤ 3 := by omega
    rw [show (fun i j => V.int (i + j)) (1 : Int) sz = V.int (1 + sz) from rfl]
    generalize 1 + sz = size at *
    have lrs := rvs.len
    -- a further sum
    refine ⟨fun σ H' => ∃ y17 y18 y19 y20 y21, σ = sg (some (.ref a)) (some (.ref h)) (some (.int (n : Nat))) (some (.ref ps)) (some (.int mo)) y5 (some (.ref D)) (some (.ref pu)) (some (.ref pg)) y9 y10 (some (.ref po')) (some (.ref pr)) (some (.ref x)) (some (.str (shownR (rndN (rsOf st rl goal) ul.length)))) (some (.int (k0 : Int))) (some (.int size)) y17 y18 y19 y20 y21 none none none none ∧ D2 C H' h q ps pu pg pr po' x st ul goal rl ow, ?_, fun σ H18 hM => ?_⟩
    · refine ⟨_, rfl, len2, fun pS npS => ?_⟩
      have kS := same_upd (o := .lst [.int 1, .int (-1)]) npS
      obtain ⟨e1, e2⟩ := D17.d.a.fresh npS
      have D18 := D17.same kS
      have eS : upd H17 pS (.lst [.int 1, .int (-1)]) pS = some (.lst [.int 1, .int (-1)]) := upd_same
      generalize upd H17 pS (.lst [.int 1, .int (-1)]) = H18 at *
      refine ⟨pS, rfl, ⟨_, sq_lst eS⟩, for_list (K := K) (a := pS) (xs := [.int 1, .int (-1)]) (fun i σ H' => ∃ y17 y18 y19 y20 y21, σ = sg (some (.ref a)) (some (.ref h)) (some (.int (n : Nat))) (some (.ref ps)) (some (.int mo)) y5 (some (.ref D)) (some (.ref pu)) (some (.ref pg)) y9 y10 (some (.ref po')) (some (.ref pr)) (some (.ref x)) (some (.str (shownR (rndN (rsOf st rl goal) ul.length)))) (some (.int (k0 : Int))) (some (.int size)) y17 y18 y19 y20 y21 none none none none ∧ D2 C H' h q ps pu pg pr po' x st ul goal rl ow ∧ Kpt h q H18 H')
        ⟨none, none, none, none, none, rfl, D18, .refl _ _ _⟩ (fun i σ H' _ h => by obtain ⟨_, _, _, _, _, _, _, kp⟩ := h; exact sq_lst (kp _ _ eS e1 e2)) (fun i v σ H19 hv h => ?_) (fun σ H19 h => ?_)⟩
      · obtain ⟨y17, y18, y19, y20, y21, rfl, dd, kp⟩ := h
        obtain ⟨c, rfl, hc⟩ : ∃ c : Int, v = V.int c ∧ (c = 1 ∨ c = -1) := by
          match i, hv with
          | 0, hv => exact ⟨1, (Option.some.inj hv).symm, .inl rfl⟩
          | 1, hv => exact ⟨-1, (Option.some.inj hv).symm, .inr rfl⟩
          | i + 2, hv => simp at hv
        refine ⟨len1, fun p1 np1 => ?_⟩
        have k1 := same_upd (o := .lst [.int 0]) np1
        refine ⟨_, rfl, p1, _, _, rfl, rfl, upd_same, by omega, by omega, by rw [sizeLine_eq]; simp; omega, fun la nla => ?_⟩
        have k2 := k1.trans (same_upd (o := .lst (List.replicate (((n : Nat) : Int)).toNat [V.int 0]).flatten) nla)
        have ea : upd (upd H19 p1 (.lst [.int 0])) la (.lst (List.replicate (((n : Nat) : Int)).toNat [V.int 0]).flatten) la = some (.lst (List.replicate n (V.int 0))) := by
          rw [upd_same, repf, Int.toNat_natCast]
        have nla0 := k1.free nla
        generalize upd (upd H19 p1 (.lst [.int 0])) la (.lst (List.replicate (((n : Nat) : Int)).toNat [V.int 0]).flatten) = H20 at *
        have d20 := dd.same k2
        have kp20 := kp.trans (.of_same k2)
        obtain ⟨a1', a2'⟩ := dd.d.a.fresh nla0
        refine ⟨_, rfl, _, rfl, _, _, rfl, rfl, .inl ⟨by omega, by omega⟩, _, rfl, _, rfl, la, _, _, k0, rfl, rfl, ea, ixN_nat (by rw [List.length_replicate]; exact lk0), ?_⟩
        have ea2 : upd H20 la (.lst ((List.replicate n (V.int 0)).set k0 (V.int (c * size)))) la = some (tL (oneAm n k0 (c * size))) := by
          rw [upd_same]
          unfold tL oneAm
          rw [List.map_set, List.map_replicate]
        have kp21 : Kpt h q H18 (upd H20 la (.lst ((List.replicate n (V.int 0)).set k0 (V.int (c * size))))) := kp20.at_new (kp.free nla0 a1' a2')
        have d21 : D2 C (upd H20 la (.lst ((List.replicate n (V.int 0)).set k0 (V.int (c * size))))) h q ps pu pg pr po' x st ul goal rl ow := by
          have dn := dd.same (same_upd (o := HO.lst ((List.replicate n (V.int 0)).set k0 (V.int (c * size)))) nla0)
          have kq : Kpt h q H19 (upd H20 la (.lst ((List.replicate n (V.int 0)).set k0 (V.int (c * size))))) := (Kpt.of_same (h := h) (q := q) k2).at_new nla0
          exact dd.to kq (d20.d.a.upd a1' a2')
        generalize upd H20 la (.lst ((List.replicate n (V.int 0)).set k0 (V.int (c * size)))) = H21 at *
        have cs : -10 ≤ c * size ∧ c * size ≤ 10 ∧ c * size ≠ 0 := by
          rcases hc with rfl | rfl
          · omega
          · omega
        generalize c * size = cz at *
        have am_l : (oneAm n k0 cz).length = n := one_len
        have am_z := one_nz lk0 cs.2.2
        have am_b := one_bd (n := n) (k := k0) ⟨cs.1, cs.2.1⟩
        generalize oneAm n k0 cz = am at *
        -- more
        refine ⟨_, rfl, la, _, rfl, .inl ⟨sq_lst ea2, fun q1 nq1 => ?_⟩⟩
        have k3 := same_upd (o := .tup (am.map V.int)) nq1
        refine ⟨_, rfl, _, rfl, .ref la, .ref ps, am, st, rfl, ⟨la, rfl, .inl (k3 _ _ ea2)⟩, (d21.d.sv.same k3).sa, by omega, by omega, (fun c hc => by have := am_b c hc; omega), bf, fun H22 s22 => ⟨_, _, rfl, rfl, ⟨by decide, by decide⟩, len4, fun tm ntm => ?_⟩⟩
        have k4 := same_upd (o := .tup [.str "sum", .ref q1, .bl false, .int (tot am st / 12)]) ntm
        have k34 := (k3.trans s22).trans k4
        have d23 := d21.same k34
        have ea3 := k34 _ _ ea2
        have em : RV (upd H22 tm (.tup [.str "sum", .ref q1, .bl false, .int (tot am st / 12)])) (.ref tm) ⟨am, false, tot am st / 12⟩ := ⟨tm, q1, rfl, upd_same, k4 _ _ (s22 _ _ upd_same)⟩
        have kp23 := kp21.trans (.of_same (h := h) (q := q) k34)
        generalize upd H22 tm (.tup [.str "sum", .ref q1, .bl false, .int (tot am st / 12)]) = H23 at *
        -- place
        obtain ⟨pr1, us1, er1, hpr1, rvs1⟩ := id d23.rv
        cases er1
        have l1s := rvs1.len
        refine ⟨_, rfl, _, rfl, pr, us1, rfl, .inr (sq_tup hpr1), _, _, rfl, rfl, h, q, _, rfl, d23.d.a, by omega, by omega, fun pl H24 p0' p1' a24 kp24 => ?_⟩
        obtain ⟨pn, rfl, hpn⟩ : ∃ pn : Nat, pl = (pn : Int) ∧ pn ≤ us1.length := ⟨pl.toNat, by omega, by omega⟩
        have tk24 := TK.kp kp24 d23.d.a
        have d24 := d23.to kp24 a24
        have em24 := em.tk tk24
        have ea4 := kp24 _ _ ea3 a1' a2'
        have hpr2 := tk24 _ _ hpr1
        have rvs2 := rvs1.mono fun v x (k : RV H23 v x) => k.tk tk24
        have kp25 := kp23.trans kp24
        refine ⟨_, rfl, _, rfl, _, rfl, _, rfl, slA_to hpr2 rvs2 hpn fun b1 w1 Hm1 sm1 hb1 al1 => ⟨_, rfl, len1, fun b2 nb2 => ?_⟩⟩
        have km2 := same_upd (o := .tup [.ref tm]) nb2
        have sm12 := sm1.trans km2
        have lw1 := al1.len
        rw [List.length_take] at lw1
        refine cat_r (r2 := [⟨am, false, tot am st / 12⟩]) (km2 _ _ hb1) upd_same (al1.mono fun v x k => k.same km2) (.cons ((em24).same sm12) .nil) (by show w1.length + 1 ≤ 1000; omega) fun b3 w3 Hm3 sm3 hb3 al3 => ?_
        have sm13 := sm12.trans sm3
        have lw3 := al3.len
        rw [List.length_append, List.length_take] at lw3
        refine ⟨_, rfl, _, rfl, _, rfl, ?_⟩
        first | unfold tNoPart | dsimp only
        refine slA_from (sm13 _ _ hpr2) ((rvs2).mono fun v x (k : RV H24 v x) => k.same sm13) hpn fun b4 w4 Hm4 sm4 hb4 al4 => ?_
        have lw4 := al4.len
        rw [List.length_drop] at lw4
        refine cat_r (sm4 _ _ hb3) hb4 (al3.mono fun v x k => k.same sm4) al4 (by have h1 : [(⟨am, false, tot am st / 12⟩ : Row)].length = 1 := rfl; omega) fun b5 w5 Hm5 sm5 hb5 al5 => ?_
        have sm15 := (sm13.trans sm4).trans sm5
        have dm := (d24).same sm15
        have lw5 := al5.len
        have grm : ∀ r ∈ rl.take pn ++ [(⟨am, false, tot am st / 12⟩ : Row)] ++ rl.drop pn, Good n st r := fun r hr' => by
          rcases List.mem_append.mp hr' with z | z
          · rcases List.mem_append.mp z with z | z
            · exact gr r (List.mem_of_mem_take z)
            · rw [List.mem_singleton.mp z]; exact good_more am_l am_z am_b
          · exact gr r (List.mem_of_mem_drop z)
        have lrm : (rl.take pn ++ [(⟨am, false, tot am st / 12⟩ : Row)] ++ rl.drop pn).length ≤ 20 := by
          rw [List.length_append, List.length_append, List.length_take, List.length_drop]
          show _ + 1 + _ ≤ 20
          omega
        refine ⟨_, rfl, _, rfl, _, rfl, .ref pu, .ref b5, .ref po', .ref pg, .ref ps, ul, _, ow, goal, st, rfl, dm.d.us, ⟨b5, w5, rfl, hb5, al5⟩, dm.ov, dm.d.lg, dm.d.sv, N.want grm lrm ol os0 ook N.lg, fun H30 s30 => ⟨true, rfl, iteF ?_⟩⟩
        have s24 := sm15.trans s30
        have d30 := d24.same s24
        have ea5 := s24 _ _ ea4
        have kp30 := kp25.trans (.of_same (h := h) (q := q) s24)
        -- fixed
        refine ⟨_, rfl, la, rfl, ⟨_, sq_lst ea5⟩, fun D5 nD5 => ?_⟩
        refine lc_list (K := K) (a := la) (xs := am.map V.int) (fun i H' => H' D5 = some (.lst (((am.take i).map (12 * ·)).map V.int)) ∧ Same H30 H') ⟨upd_same, same_upd nD5⟩ (fun i H' _ h => sq_lst (h.2 _ _ ea5)) ?_ ?_
        · rintro i v H5 hv ⟨hD, sm⟩
          obtain ⟨c', hc', rfl⟩ := at_map hv
          have li : i < am.length := (List.getElem?_eq_some_iff.mp hc').1
          refine ⟨rfl, _, rfl, _, _, rfl, rfl, .inl ⟨by decide, by decide⟩, _, hD, small1000 (by rw [List.length_map, List.length_map, List.length_take]; omega), ?_, same_at sm nD5⟩
          rw [upd_same, take_one hc', List.map_append, List.map_append]; rfl
        rintro H31 ⟨hD5, s31⟩
        rw [List.length_map, List.take_length] at hD5
        refine ⟨D5, _, rfl, .inl ⟨sq_lst hD5, fun q5 nq5 => ?_⟩⟩
        have k5 := same_upd (o := .tup ((am.map (12 * ·)).map V.int)) nq5
        have s315 := s31.trans k5
        refine ⟨_, rfl, _, rfl, .ref la, .ref ps, am, st, rfl, ⟨la, rfl, .inl (s315 _ _ ea5)⟩, (d30.d.sv.same s315).sa, by omega, by omega, (fun c hc => by have := am_b c hc; omega), bf, fun H32 s32 => ⟨len4, fun tf ntf => ?_⟩⟩
        have k6 := same_upd (o := .tup [.str "sum", .ref q5, .bl true, .int (tot am st)]) ntf
        have s33 := (s315.trans s32).trans k6
        have d33 := d30.same s33
        have ef : RV (upd H32 tf (.tup [.str "sum", .ref q5, .bl true, .int (tot am st)])) (.ref tf) ⟨am.map (12 * ·), true, tot am st⟩ := ⟨tf, q5, rfl, upd_same, k6 _ _ (s32 _ _ upd_same)⟩
        have kp33 := kp30.trans (.of_same (h := h) (q := q) s33)
        have s2433 := s24.trans s33
        have hpr3 := s2433 _ _ hpr2
        have rvs3 := rvs2.mono fun v x (k : RV H24 v x) => k.same s2433
        generalize upd H32 tf (.tup [.str "sum", .ref q5, .bl true, .int (tot am st)]) = H33 at *
        refine ⟨_, rfl, _, rfl, _, rfl, _, rfl, slA_to hpr3 rvs3 hpn fun b1 w1 Hf1 sf1 hb1 al1 => ⟨_, rfl, len1, fun b2 nb2 => ?_⟩⟩
        have kf2 := same_upd (o := .tup [.ref tf]) nb2
        have sf12 := sf1.trans kf2
        have lw1 := al1.len
        rw [List.length_take] at lw1
        refine cat_r (r2 := [⟨am.map (12 * ·), true, tot am st⟩]) (kf2 _ _ hb1) upd_same (al1.mono fun v x k => k.same kf2) (.cons ((ef).same sf12) .nil) (by show w1.length + 1 ≤ 1000; omega) fun b3 w3 Hf3 sf3 hb3 al3 => ?_
        have sf13 := sf12.trans sf3
        have lw3 := al3.len
        rw [List.length_append, List.length_take] at lw3
        refine ⟨_, rfl, _, rfl, _, rfl, ?_⟩
        first | unfold tNoPart | dsimp only
        refine slA_from (sf13 _ _ hpr3) ((rvs3).mono fun v x (k : RV H33 v x) => k.same sf13) hpn fun b4 w4 Hf4 sf4 hb4 al4 => ?_
        have lw4 := al4.len
        rw [List.length_drop] at lw4
        refine cat_r (sf4 _ _ hb3) hb4 (al3.mono fun v x k => k.same sf4) al4 (by have h1 : [(⟨am.map (12 * ·), true, tot am st⟩ : Row)].length = 1 := rfl; omega) fun b5 w5 Hf5 sf5 hb5 al5 => ?_
        have sf15 := (sf13.trans sf4).trans sf5
        have df := (d33).same sf15
        have lw5 := al5.len
        have grf : ∀ r ∈ rl.take pn ++ [(⟨am.map (12 * ·), true, tot am st⟩ : Row)] ++ rl.drop pn, Good n st r := fun r hr' => by
          rcases List.mem_append.mp hr' with z | z
          · rcases List.mem_append.mp z with z | z
            · exact gr r (List.mem_of_mem_take z)
            · rw [List.mem_singleton.mp z]; exact good_eq am_l (by omega) am_z am_b
          · exact gr r (List.mem_of_mem_drop z)
        have lrf : (rl.take pn ++ [(⟨am.map (12 * ·), true, tot am st⟩ : Row)] ++ rl.drop pn).length ≤ 20 := by
          rw [List.length_append, List.length_append, List.length_take, List.length_drop]
          show _ + 1 + _ ≤ 20
          omega
        refine ⟨nil_ok, fun pe npe => ?_⟩
        have ke := same_upd (o := .tup []) npe
        have de := df.same ke
        refine ⟨_, rfl, _, rfl, .ref pu, .ref b5, .ref pe, .ref pg, .ref ps, ul, _, [], goal, st, rfl, de.d.us, ⟨b5, w5, rfl, ke _ _ hb5, al5.mono fun v x k => k.same ke⟩, ⟨pe, [], rfl, upd_same, .nil⟩, de.d.lg, de.d.sv, N.want grf lrf (by decide) rfl (by simp) N.lg, fun H40 s40 => ⟨true, rfl, iteF ?_⟩⟩
        have sE := (sf15.trans ke).trans s40
        exact ⟨_, _, _, _, _, rfl, d33.same sE, kp33.trans (.of_same sE)⟩
      · obtain ⟨y17, y18, y19, y20, y21, rfl, dd, kp⟩ := h
        exact ⟨_, _, _, _, _, rfl, dd⟩
    obtain ⟨y17, y18, y19, y20, y21, rfl, D18⟩ := hM
    refine ⟨_, rfl, nil_ok, fun p1 np1 => ?_⟩
    have k1 := same_upd (o := .tup []) np1
    have D19 := D18.same k1
    refine ⟨_, rfl, _, rfl, _, rfl, .ref pu, .ref p1, .ref po', .ref pg, .ref ps, ul, [], ow, goal, st, rfl, D19.d.us, ⟨p1, [], rfl, upd_same, .nil⟩, D19.ov, D19.d.lg, D19.d.sv, N.want (by simp) (by decide) ol os0 ook N.lg, fun H20 s20 => ⟨true, rfl, iteF ?_⟩⟩
    have D20 := D19.same s20
    refine ⟨_, rfl, _, rfl, nil_ok, fun p2 np2 => ?_⟩
    have k2 := same_upd (o := .tup []) np2
    have D21 := D20.same k2
    have e2 : upd H20 p2 (.tup []) p2 = some (.tup []) := upd_same
    generalize upd H20 p2 (.tup []) = H21 at *
    obtain ⟨pg2, eg2, hpg2⟩ := id D21.d.lg
    cases eg2
    refine ⟨_, rfl, pg, rfl, ⟨_, sq_tup hpg2⟩, fun D6 nD6 => ?_⟩
    refine lc_tup (K := K) (a := pg) (xs := goal.map V.int) (fun i H' => H' D6 = some (.lst (((goal.take i).map (fun c : Int => -c)).map V.int)) ∧ Same H21 H') ⟨upd_same, same_upd nD6⟩ (fun i H' _ h => sq_tup (h.2 _ _ hpg2)) ?_ ?_
    · rintro i v H5 hv ⟨hD, sm⟩
      obtain ⟨c', hc', rfl⟩ := at_map hv
      have li : i < goal.length := (List.getElem?_eq_some_iff.mp hc').1
      refine ⟨rfl, _, rfl, _, rfl, _, hD, small1000 (by rw [List.length_map, List.length_map, List.length_take]; omega), ?_, same_at sm nD6⟩
      rw [upd_same, take_one hc', List.map_append, List.map_append]; rfl
    rintro H22 ⟨hD6, s22⟩
    rw [List.length_map, List.take_length] at hD6
    refine ⟨D6, _, rfl, .inl ⟨sq_lst hD6, fun p3 np3 => ?_⟩⟩
    have k3 := same_upd (o := .tup ((goal.map (fun c : Int => -c)).map V.int)) np3
    have s23 := s22.trans k3
    have D23 := D21.same s23
    refine ⟨_, rfl, .ref pu, .ref pr, .ref p2, .ref p3, .ref ps, ul, rl, [], goal.map (fun c : Int => -c), st, rfl, D23.d.us, D23.rv, ⟨p2, [], rfl, s23 _ _ e2, .nil⟩, ⟨p3, rfl, upd_same⟩, D23.d.sv, N.want gr (by omega) (by decide) rfl (by simp) (by rw [List.length_map]; exact N.lg), fun H24 s24 => ⟨true, rfl, iteF ?_⟩⟩
    have D24 := D23.same s24
    refine ⟨len2, fun t1 nt1 => ?_⟩
    have yt1 := same_upd (o := .tup [.int 7, .int 2]) nt1
    have zt1 : upd H24 t1 (.tup [.int 7, .int 2]) t1 = some (.tup [.int 7, .int 2]) := upd_same
    have yyt1 := yt1
    generalize upd H24 t1 (.tup [.int 7, .int 2]) = HV0 at *
    refine ⟨_, rfl, len2, fun t2 nt2 => ?_⟩
    have yt2 := same_upd (o := .tup [.int (-7), .int 2]) nt2
    have zt2 : upd HV0 t2 (.tup [.int (-7), .int 2]) t2 = some (.tup [.int (-7), .int 2]) := upd_same
    have yyt2 := yyt1.trans yt2
    have zt1 := yt2 _ _ zt1
    generalize upd HV0 t2 (.tup [.int (-7), .int 2]) = HV1 at *
    refine ⟨len2, fun t3 nt3 => ?_⟩
    have yt3 := same_upd (o := .tup [.int 999999, .int 2]) nt3
    have zt3 : upd HV1 t3 (.tup [.int 999999, .int 2]) t3 = some (.tup [.int 999999, .int 2]) := upd_same
    have yyt3 := yyt2.trans yt3
    have zt1 := yt3 _ _ zt1
    have zt2 := yt3 _ _ zt2
    generalize upd HV1 t3 (.tup [.int 999999, .int 2]) = HV2 at *
    refine ⟨_, rfl, len2, fun t4 nt4 => ?_⟩
    have yt4 := same_upd (o := .tup [.int (-1), .int 3]) nt4
    have zt4 : upd HV2 t4 (.tup [.int (-1), .int 3]) t4 = some (.tup [.int (-1), .int 3]) := upd_same
    have yyt4 := yyt3.trans yt4
    have zt1 := yt4 _ _ zt1
    have zt2 := yt4 _ _ zt2
    have zt3 := yt4 _ _ zt3
    generalize upd HV2 t4 (.tup [.int (-1), .int 3]) = HV3 at *
    refine ⟨len2, fun t5 nt5 => ?_⟩
    have yt5 := same_upd (o := .tup [.int 5, .int 7]) nt5
    have zt5 : upd HV3 t5 (.tup [.int 5, .int 7]) t5 = some (.tup [.int 5, .int 7]) := upd_same
    have yyt5 := yyt4.trans yt5
    have zt1 := yt5 _ _ zt1
    have zt2 := yt5 _ _ zt2
    have zt3 := yt5 _ _ zt3
    have zt4 := yt5 _ _ zt4
    generalize upd HV3 t5 (.tup [.int 5, .int 7]) = HV4 at *
    refine ⟨_, rfl, len2, fun t6 nt6 => ?_⟩
    have yt6 := same_upd (o := .tup [.int (-12), .int 17]) nt6
    have zt6 : upd HV4 t6 (.tup [.int (-12), .int 17]) t6 = some (.tup [.int (-12), .int 17]) := upd_same
    have yyt6 := yyt5.trans yt6
    have zt1 := yt6 _ _ zt1
    have zt2 := yt6 _ _ zt2
    have zt3 := yt6 _ _ zt3
    have zt4 := yt6 _ _ zt4
    have zt5 := yt6 _ _ zt5
    generalize upd HV4 t6 (.tup [.int (-12), .int 17]) = HV5 at *
    refine ⟨_, _, rfl, rfl, ⟨by decide, by decide, by decide⟩, ?_⟩
    rw [show ((fun i j : Int => V.int (i ^ j.toNat)) 10 6) = V.int 1000000 from rfl]
    refine ⟨len2, fun t7 nt7 => ?_⟩
    have yt7 := same_upd (o := .tup [.int 499999, .int 1000000]) nt7
    have zt7 : upd HV5 t7 (.tup [.int 499999, .int 1000000]) t7 = some (.tup [.int 499999, .int 1000000]) := upd_same
    have yyt7 := yyt6.trans yt7
    have zt1 := yt7 _ _ zt1
    have zt2 := yt7 _ _ zt2
    have zt3 := yt7 _ _ zt3
    have zt4 := yt7 _ _ zt4
    have zt5 := yt7 _ _ zt5
    have zt6 := yt7 _ _ zt6
    generalize upd HV5 t7 (.tup [.int 499999, .int 1000000]) = HV6 at *
    refine ⟨len7, fun t8 n8 => ?_⟩
    have y8 := same_upd (o := .tup [.ref t1, .ref t2, .ref t3, .ref t4, .ref t5, .ref t6, .ref t7]) n8
    have sv7 : SV (upd HV6 t8 (.tup [.ref t1, .ref t2, .ref t3, .ref t4, .ref t5, .ref t6, .ref t7])) (.ref t8) st7 := ⟨t8, _, rfl, upd_same, .cons ⟨t1, rfl, y8 _ _ zt1⟩ (.cons ⟨t2, rfl, y8 _ _ zt2⟩ (.cons ⟨t3, rfl, y8 _ _ zt3⟩ (.cons ⟨t4, rfl, y8 _ _ zt4⟩ (.cons ⟨t5, rfl, y8 _ _ zt5⟩ (.cons ⟨t6, rfl, y8 _ _ zt6⟩ (.cons ⟨t7, rfl, y8 _ _ zt7⟩ .nil))))))⟩
    have yy8 := yyt7.trans y8
    generalize upd HV6 t8 (.tup [.ref t1, .ref t2, .ref t3, .ref t4, .ref t5, .ref t6, .ref t7]) = H25 at *
    refine ⟨.ref t8, st7, rfl, sv7, by decide, st7_ok, fun H26 q26 s26 hq26 => ?_⟩
    refine ⟨_, rfl, _, rfl, len7, fun t9 n9 => ?_⟩
    have y9' := same_upd (o := .tup [.int 3, .int (-4), .int 499999, .int 0, .int 1, .int (-1), .int 0]) n9
    rw [st7_near] at hq26
    refine ⟨dI [3, -4, 499999, 0, 1, -1, 0], dI [3, -4, 499999, 0, 1, -1, 0], dpI (y9' _ _ hq26), dpI (show upd H26 t9 (.tup [.int 3, .int (-4), .int 499999, .int 0, .int 1, .int (-1), .int 0]) t9 = some (tI [3, -4, 499999, 0, 1, -1, 0]) from upd_same), shpI _, shpI _, _, rfl, ?_⟩
    rw [eqvI, decide_eq_true rfl]
    refine iteF ?_
    have D27 := D24.same ((yy8.trans s26).trans y9')
    -- near
    refine ⟨nil_ok, fun l nl => ?_⟩
    have kl := same_upd (o := .lst []) nl
    obtain ⟨n1', n2'⟩ := D27.d.a.fresh nl
    have D28 := D27.same kl
    have el : upd (upd H26 t9 (.tup [.int 3, .int (-4), .int 499999, .int 0, .int 1, .int (-1), .int 0])) l (.lst []) l = some (.lst []) := upd_same
    have nl' := nl
    generalize upd (upd H26 t9 (.tup [.int 3, .int (-4), .int 499999, .int 0, .int 1, .int (-1), .int 0])) l (.lst []) = H28 at *
    obtain ⟨ps2, fs, eps2, hps2, fvs⟩ := id D28.d.sv
    cases eps2
    have lfs := fvs.len
    refine ⟨fun σ H' => ∃ y23 y24 y25, σ = sg (some (.ref a)) (some (.ref h)) (some (.int (n : Nat))) (some (.ref ps)) (some (.int mo)) y5 (some (.ref D)) (some (.ref pu)) (some (.ref pg)) y9 y10 (some (.ref po')) (some (.ref pr)) (some (.ref x)) (some (.str (shownR (rndN (rsOf st rl goal) ul.length)))) (some (.int (k0 : Int))) (some (.int size)) y17 y18 y19 y20 y21 (some (.ref l)) y23 y24 y25 ∧ H' l = some (tL (st.map nearF)) ∧ D2 C H' h q ps pu pg pr po' x st ul goal rl ow, ?_, fun σ H29 hM => ?_⟩
    · refine ⟨_, rfl, ps, rfl, ⟨_, sq_tup hps2⟩, for_tup (K := K) (a := ps) (xs := fs) (fun i σ H' => ∃ y23 y24 y25, σ = sg (some (.ref a)) (some (.ref h)) (some (.int (n : Nat))) (some (.ref ps)) (some (.int mo)) y5 (some (.ref D)) (some (.ref pu)) (some (.ref pg)) y9 y10 (some (.ref po')) (some (.ref pr)) (some (.ref x)) (some (.str (shownR (rndN (rsOf st rl goal) ul.length)))) (some (.int (k0 : Int))) (some (.int size)) y17 y18 y19 y20 y21 (some (.ref l)) y23 y24 y25 ∧ H' l = some (tL ((st.take i).map nearF)) ∧ D2 C H' h q ps pu pg pr po' x st ul goal rl ow ∧ TK H28 H')
        ⟨none, none, none, rfl, el, D28, fun _ _ e => e⟩ (fun i σ H' _ h => by obtain ⟨_, _, _, _, _, _, tk⟩ := h; exact sq_tup (tk _ _ hps2)) (fun i v σ H29 hv h => ?_) (fun σ H29 h => ?_)⟩
      · obtain ⟨y23, y24, y25, rfl, e29, d29, tk29⟩ := h
        obtain ⟨fr, hfr, pf, rfl, hpf⟩ := fvs.at_ hv
        have F12i := f12 fr (List.mem_of_getElem? hfr)
        have f0 := F12i.pos
        have fle := F12i.le
        have li : i < st.length := (List.getElem?_eq_some_iff.mp hfr).1
        have fin1 : ∀ (z : Int) y23 y24 y25, z = nearF fr → (fun σ H' => ∃ y23 y24 y25, σ = sg (some (.ref a)) (some (.ref h)) (some (.int (n : Nat))) (some (.ref ps)) (some (.int mo)) y5 (some (.ref D)) (some (.ref pu)) (some (.ref pg)) y9 y10 (some (.ref po')) (some (.ref pr)) (some (.ref x)) (some (.str (shownR (rndN (rsOf st rl goal) ul.length)))) (some (.int (k0 : Int))) (some (.int size)) y17 y18 y19 y20 y21 (some (V.ref l)) y23 y24 y25 ∧ H' l = some (tL ((st.take (i + 1)).map nearF)) ∧ D2 C H' h q ps pu pg pr po' x st ul goal rl ow ∧ TK H28 H') (sg (some (.ref a)) (some (.ref h)) (some (.int (n : Nat))) (some (.ref ps)) (some (.int mo)) y5 (some (.ref D)) (some (.ref pu)) (some (.ref pg)) y9 y10 (some (.ref po')) (some (.ref pr)) (some (.ref x)) (some (.str (shownR (rndN (rsOf st rl goal) ul.length)))) (some (.int (k0 : Int))) (some (.int size)) y17 y18 y19 y20 y21 (some (V.ref l)) y23 y24 y25) (upd H29 l (.lst (((st.take i).map nearF).map V.int ++ [.int z]))) := fun z y23 y24 y25 hz => by
          refine ⟨y23, y24, y25, rfl, ?_, ⟨⟨d29.d.a.upd n1' n2', d29.d.sv.tk (.put e29), d29.d.us.tk (.put e29), d29.d.lg.tk (.put e29)⟩, d29.rv.tk (.put e29), d29.ov.tk (.put e29), ?_⟩, tk29.trans (.put e29)⟩
          · rw [upd_same, take_one hfr, List.map_append, hz]
            show some (HO.lst _) = some (HO.lst ((_ ++ [nearF fr]).map V.int))
            rw [List.map_append]; rfl
          · obtain ⟨x', dx', pu', pw', pg', us', ws', e', hx', hu', uv', hw', wv', hg'⟩ := d29.tv
            have tk : TK H29 (upd H29 l (.lst (((st.take i).map nearF).map V.int ++ [.int z]))) := .put e29
            exact ⟨x', dx', pu', pw', pg', us', ws', e', by rw [upd_ne (fun z => by rw [z, e29] at hx'; cases hx')]; exact hx', tk _ _ hu', uv'.tk tk, tk _ _ hw', wv'.tk tk, tk _ _ hg'⟩
        have sm : (((st.take i).map nearF).map V.int).length < sizeLine := small1000 (by rw [List.length_map, List.length_map, List.length_take]; omega)
        have ne := near_eq F12i
        refine ⟨pf, _, rfl, sq_tup (tk29 _ _ hpf), rfl, _, _, rfl, _, _, rfl, rfl, ?_⟩
        refine ⟨_, rfl, _, rfl, _, _, rfl, rfl, ⟨f0, by omega⟩, ?_⟩
        refine ⟨_, rfl, .inl ⟨rfl, _, sq_lst e29⟩, _, rfl, _, rfl, _, rfl, _, rfl, _, _, rfl, rfl, .inr ⟨by omega, by omega⟩, _, _, rfl, rfl, _, _, rfl, rfl, .inl ⟨by decide, by decide⟩, _, rfl, _, _, rfl, rfl, _, rfl, ite2 (fun hc => ?_) (fun hc => ?_)⟩
        · rw [if_pos hc] at ne
          exact ⟨_, _, rfl, rfl, l, _, _, rfl, rfl, e29, sm, fin1 _ _ _ _ ne.symm⟩
        · rw [if_neg hc] at ne
          exact ⟨_, _, rfl, rfl, l, _, _, rfl, rfl, e29, sm, fin1 _ _ _ _ ne.symm⟩
      · obtain ⟨y23, y24, y25, rfl, e29, d29, tk29⟩ := h
        rw [lfs, List.take_length] at e29
        exact ⟨y23, y24, y25, rfl, e29, d29⟩
    obtain ⟨y23, y24, y25, rfl, e29, D29⟩ := hM
    have shn : ∀ c ∈ st.map nearF, Sh12 c := fun c hc => by
      obtain ⟨f, hf, rfl⟩ := List.mem_map.mp hc
      exact near_bd (f12 f hf)
    have lnn : (st.map nearF).length ≤ 100 := by rw [List.length_map]; omega
    refine ⟨_, rfl, .ref ps, st, rfl, D29.d.sv, by omega, fo, fun H30 q30 s30 hq30 => ?_⟩
    refine shownI ⟨q30, rfl, hq30⟩ shn lnn ?_
    refine ⟨_, rfl, l, _, rfl, .inl ⟨sq_lst (s30 _ _ e29), fun p31 np31 => ?_⟩⟩
    refine shownI ⟨p31, rfl, upd_same⟩ shn lnn ?_
    have k31 := same_upd (o := .tup ((st.map nearF).map V.int)) np31
    have D31 := (D29.same s30).same k31
    refine ⟨rfl, _, rfl, ite2 (fun _ => ?_) (fun h => absurd (decide_eq_true rfl) h)⟩
    refine ⟨fun v H' => v = .str (shownR (rndN (rsOf st rl goal) ul.length)), ?_, ?_⟩
    · refine ⟨_, rfl, _, rfl, .ref x, .ref ps, ul, rl.map .sum, goal, st, rfl, D31.tv, D31.d.sv, by rw [List.length_map]; omega, by omega, lamS, by omega, by omega, fo, fun H15 q15 l15 s15 el' hq => ?_, fun H15 s15 en => ?_⟩
      · rw [sumsOf_map] at el'
        obtain ⟨b1, b2⟩ := N.bound gr (by omega) el'
        refine shownI ⟨q15, rfl, hq⟩ b2 b1 ?_
        show V.str _ = V.str _
        rw [el']; rfl
      · rw [sumsOf_map] at en
        refine .inr ⟨rfl, ?_⟩
        show V.str _ = V.str _
        rw [en]; rfl
    rintro v H32 rfl
    refine ⟨_, rfl, rfl, ?_⟩
    rw [decide_eq_true rfl]
    exact fin _
end
end M56

namespace M56
open PySem PySem.W PySem.Calls PyProof.Rows Own Gd
open L2 (FnScope defArgs defBody defScope FunD Fun Binds OexC XfC xfB xfB_ok FnOk CX0 Sp Cls NoAttr Mk)
def d_is_whole : He.DefD := ⟨("is_whole", none), "is_whole", "is_whole", defArgs s_is_whole, defBody s_is_whole, defScope s_is_whole, [], []⟩
def d_is_places : He.DefD := ⟨("is_places", none), "is_places", "is_places", defArgs s_is_places, defBody s_is_places, defScope s_is_places, [], []⟩
def d_is_integers : He.DefD := ⟨("is_integers", none), "is_integers", "is_integers", defArgs s_is_integers, defBody s_is_integers, defScope s_is_integers, [], []⟩
def d_is_lot_of_places : He.DefD := ⟨("is_lot_of_places", none), "is_lot_of_places", "is_lot_of_places", defArgs s_is_lot_of_places, defBody s_is_lot_of_places, defScope s_is_lot_of_places, [], []⟩
def d_is_unlike : He.DefD := ⟨("_is_unlike", none), "_is_unlike", "_is_unlike", defArgs s_is_unlike, defBody s_is_unlike, defScope s_is_unlike, [], []⟩
def d_is_jobs : He.DefD := ⟨("_is_jobs", none), "_is_jobs", "_is_jobs", defArgs s_is_jobs, defBody s_is_jobs, defScope s_is_jobs, [], []⟩
def d_is_bench : He.DefD := ⟨("_is_bench", none), "_is_bench", "_is_bench", defArgs s_is_bench, defBody s_is_bench, defScope s_is_bench, [], []⟩
def d_is_sum : He.DefD := ⟨("_is_sum", none), "_is_sum", "_is_sum", defArgs s_is_sum, defBody s_is_sum, defScope s_is_sum, [], []⟩
def d_is_table : He.DefD := ⟨("_is_table", none), "_is_table", "_is_table", defArgs s_is_table, defBody s_is_table, defScope s_is_table, [], []⟩
def d_is_wish : He.DefD := ⟨("is_wish", none), "is_wish", "is_wish", defArgs s_is_wish, defBody s_is_wish, defScope s_is_wish, [], []⟩
def d_is_name : He.DefD := ⟨("is_name", none), "is_name", "is_name", defArgs s_is_name, defBody s_is_name, defScope s_is_name, [], []⟩
def d_is_pair : He.DefD := ⟨("is_pair", none), "is_pair", "is_pair", defArgs s_is_pair, defBody s_is_pair, defScope s_is_pair, [], []⟩
def d_is_unknown : He.DefD := ⟨("_is_unknown", none), "_is_unknown", "_is_unknown", defArgs s_is_unknown, defBody s_is_unknown, defScope s_is_unknown, [], []⟩
def d_check_unknowns : He.DefD := ⟨("_check_unknowns", none), "_check_unknowns", "_check_unknowns", defArgs s_check_unknowns, defBody s_check_unknowns, defScope s_check_unknowns, [], []⟩
def d_check_wishes : He.DefD := ⟨("_check_wishes", none), "_check_wishes", "_check_wishes", defArgs s_check_wishes, defBody s_check_wishes, defScope s_check_wishes, [], []⟩
def d_check_goal : He.DefD := ⟨("_check_goal", none), "_check_goal", "_check_goal", defArgs s_check_goal, defBody s_check_goal, defScope s_check_goal, [], []⟩
def d_rows_of : He.DefD := ⟨("rows_of", none), "rows_of", "rows_of", defArgs s_rows_of, defBody s_rows_of, defScope s_rows_of, [], []⟩
def d_free_ways : He.DefD := ⟨("free_ways", none), "free_ways", "free_ways", defArgs s_free_ways, defBody s_free_ways, defScope s_free_ways, [], []⟩
def d_rounded_by_signs : He.DefD := ⟨("rounded_by_signs", none), "rounded_by_signs", "rounded_by_signs", defArgs s_rounded_by_signs, defBody s_rounded_by_signs, defScope s_rounded_by_signs, [], []⟩
def d_nearest_point : He.DefD := ⟨("nearest_point", none), "nearest_point", "nearest_point", defArgs s_nearest_point, defBody s_nearest_point, defScope s_nearest_point, [], []⟩
def d_Lany : He.DefD := ⟨("_law_any", none), "_law_any", "_law_any", defArgs s_Lany, defBody s_Lany, defScope s_Lany, [], []⟩
def d_Ldraw : He.DefD := ⟨("_law_draw", none), "_law_draw", "_law_draw", defArgs s_Ldraw, defBody s_Ldraw, defScope s_Ldraw, [], []⟩
def d_Lof : He.DefD := ⟨("_law_of", none), "_law_of", "_law_of", defArgs s_Lof, defBody s_Lof, defScope s_Lof, [], []⟩
def d_Llow : He.DefD := ⟨("_law_low", none), "_law_low", "_law_low", defArgs s_Llow, defBody s_Llow, defScope s_Llow, [], []⟩
def d_Ltotal : He.DefD := ⟨("_law_total", none), "_law_total", "_law_total", defArgs s_Ltotal, defBody s_Ltotal, defScope s_Ltotal, [], []⟩
def d_Lstart : He.DefD := ⟨("_law_start", none), "_law_start", "_law_start", defArgs s_Lstart, defBody s_Lstart, defScope s_Lstart, [], []⟩
def d_Lways : He.DefD := ⟨("_law_ways", none), "_law_ways", "_law_ways", defArgs s_Lways, defBody s_Lways, defScope s_Lways, [], []⟩
def d_Lrounded : He.DefD := ⟨("_law_rounded", none), "_law_rounded", "_law_rounded", defArgs s_Lrounded, defBody s_Lrounded, defScope s_Lrounded, [], []⟩
def d_Lkeeps : He.DefD := ⟨("_law_keeps", none), "_law_keeps", "_law_keeps", defArgs s_Lkeeps, defBody s_Lkeeps, defScope s_Lkeeps, [], []⟩
def d_Lrow : He.DefD := ⟨("_law_row", none), "_law_row", "_law_row", defArgs s_Lrow, defBody s_Lrow, defScope s_Lrow, [], []⟩
def d_Lright : He.DefD := ⟨("_law_right", none), "_law_right", "_law_right", defArgs s_Lright, defBody s_Lright, defScope s_Lright, [], []⟩
def d_law : He.DefD := ⟨("law", none), "law", "law", defArgs s_law, defBody s_law, defScope s_law, [], []⟩
def d_Ti : He.DefD := ⟨("Task", some "__init__"), "__init__", "Task.__init__", defArgs s_Task_init, defBody s_Task_init, defScope s_Task_init, [], []⟩
def fnL0 : List He.DefD := [d_is_whole, d_is_places, d_is_integers, d_is_lot_of_places, d_is_unlike, d_is_jobs, d_is_bench, d_is_sum, d_is_table, d_is_wish]
def fnL1 : List He.DefD := [d_is_name, d_is_pair, d_is_unknown, d_check_unknowns, d_check_wishes, d_check_goal, d_rows_of, d_free_ways, d_rounded_by_signs, d_nearest_point]
def fnL2 : List He.DefD := [d_Lany, d_Ldraw, d_Lof, d_Llow, d_Ltotal, d_Lstart, d_Lways, d_Lrounded, d_Lkeeps, d_Lrow]
def fnL3 : List He.DefD := [d_Lright, d_law, d_Ti]
def fnL : List He.DefD := fnL0 ++ fnL1 ++ fnL2 ++ fnL3
def faL0 : List He.Fa := [.glo "is_whole", .glo "is_places", .glo "is_integers", .glo "is_lot_of_places", .glo "_is_unlike", .glo "_is_jobs", .glo "_is_bench", .glo "_is_sum", .glo "_is_table", .glo "is_wish"]
def faL1 : List He.Fa := [.glo "is_name", .glo "is_pair", .glo "_is_unknown", .glo "_check_unknowns", .glo "_check_wishes", .glo "_check_goal", .glo "rows_of", .glo "free_ways", .glo "rounded_by_signs", .glo "nearest_point"]
def faL2 : List He.Fa := [.glo "_law_any", .glo "_law_draw", .glo "_law_of", .glo "_law_low", .glo "_law_total", .glo "_law_start", .glo "_law_ways", .glo "_law_rounded", .glo "_law_keeps", .glo "_law_row"]
def faL3 : List He.Fa := [.glo "_law_right", .glo "law", .glo "Task", .glo "WORDS", .glo "WISH_TESTS", .int "LONGEST_NAME" 6, .str "LETTERS" "abcdefghijklmnopqrstuvwxyz", .cls "Task", .noat "Task" "unknowns", .noat "Task" "wishes"]
def faL4 : List He.Fa := [.noat "Task" "goal", .mkr "Task", .free "len", .free "range", .free "int", .free "abs", .free "all", .free "sum", .free "repr", .free "tuple"]
def faL5 : List He.Fa := [.free "bool", .free "str", .free "zip", .free "any", .free "set", .free "enumerate", .free "isinstance"]
def faL : List He.Fa := faL0 ++ faL1 ++ faL2 ++ faL3 ++ faL4 ++ faL5
def tfL : List He.Defn := []
def tsL : List He.Tab := [(fun K => He.ga K "WISH_TESTS", ["sum", "unlike", "table", "either", "bench", "room", "round"])]
/-- a tuple of the top -/
def tupB (K : Frag) (a : Addr) (xs : List L2.V) : Bool := match K.lookup a with
  | some ⟨.type t, _, .seq its _, _⟩ => decide (t = "tuple") && (decide (its.size ≤ sizeLine) && He.relAll xs its.toList)
  | _ => false
theorem tupB_ok {K : Frag} {a : Addr} {xs : List L2.V} (h : tupB K a xs = true) (H : L2.Hp) : L2.SqT K H a xs := by
  unfold tupB at h
  cases q : K.lookup a with
  | none => rw [q] at h; cases h
  | some o =>
    obtain ⟨oc, od, dt, osl⟩ := o
    rw [q] at h
    cases oc with
    | type t =>
      cases dt with
      | seq its n =>
        obtain ⟨h1, h2⟩ := He.ba h
        obtain ⟨h3, h4⟩ := He.ba h2
        obtain rfl := of_decide_eq_true h1
        exact .inr ⟨_, its, n, q, rfl, rfl, of_decide_eq_true h3, He.relAll_ok h4⟩
      | _ => cases h
    | _ => cases dt <;> cases h
def exB (K : Frag) : Bool := tupB K (He.ga K "WORDS") (wordsL.map L2.V.str) && (He.valsB K (He.ga K "WISH_TESTS") [("sum", .glo "_is_sum"), ("unlike", .glo "_is_unlike"), ("bench", .glo "_is_bench"), ("table", .glo "_is_table")] && decide ([He.ga K "_is_sum", He.ga K "_is_unlike", He.ga K "_is_bench", He.ga K "_is_table"].Nodup))
open C8 (Cal Mak)
theorem facts {l : OpenLaw} {w : World} {K : Frag} {h : Heap} {mg : PySem.Str → Option Value} {fa : Addr} (X : K.In h) (G : h.Ns mainGlobals mg) (hfa : mg ("law" : PySem.Str) = some (.ref fa)) (c : He.SaysX faL fnL tsL tfL exB w h K) : LawG l w K 11 63 "script" mg fa h := by
  have cd := c.t.d
  obtain ⟨x3, x⟩ := He.ba c.more
  obtain ⟨x4, x5⟩ := He.ba x
  have x5 := of_decide_eq_true x5
  have g_is_whole : mg "is_whole" = some (.ref (He.ga K "is_whole")) := He.glo_ok X G (cd.fact 0 (f := .glo "is_whole") rfl)
  obtain ⟨fd_is_whole, W_is_whole⟩ := cd.def_ 0 (d := d_is_whole) rfl
  have F_is_whole : Fun K "is_whole" "is_whole" s_is_whole (He.ga K "is_whole") fd_is_whole := funOf W_is_whole
  have D_is_whole : Df K mg "is_whole" s_is_whole ["value"] := ⟨_, _, F_is_whole, g_is_whole, F_is_whole.binds fun _ _ _ _ _ _ us hl => match us, hl with | [_], _ => rfl⟩
  have g_is_places : mg "is_places" = some (.ref (He.ga K "is_places")) := He.glo_ok X G (cd.fact 1 (f := .glo "is_places") rfl)
  obtain ⟨fd_is_places, W_is_places⟩ := cd.def_ 1 (d := d_is_places) rfl
  have F_is_places : Fun K "is_places" "is_places" s_is_places (He.ga K "is_places") fd_is_places := funOf W_is_places
  have D_is_places : Df K mg "is_places" s_is_places ["value", "size"] := ⟨_, _, F_is_places, g_is_places, F_is_places.binds fun _ _ _ _ _ _ us hl => match us, hl with | [_, _], _ => rfl⟩
  have g_is_integers : mg "is_integers" = some (.ref (He.ga K "is_integers")) := He.glo_ok X G (cd.fact 2 (f := .glo "is_integers") rfl)
  obtain ⟨fd_is_integers, W_is_integers⟩ := cd.def_ 2 (d := d_is_integers) rfl
  have F_is_integers : Fun K "is_integers" "is_integers" s_is_integers (He.ga K "is_integers") fd_is_integers := funOf W_is_integers
  have D_is_integers : Df K mg "is_integers" s_is_integers ["value", "many"] := ⟨_, _, F_is_integers, g_is_integers, F_is_integers.binds fun _ _ _ _ _ _ us hl => match us, hl with | [_, _], _ => rfl⟩
  have g_is_lot_of_places : mg "is_lot_of_places" = some (.ref (He.ga K "is_lot_of_places")) := He.glo_ok X G (cd.fact 3 (f := .glo "is_lot_of_places") rfl)
  obtain ⟨fd_is_lot_of_places, W_is_lot_of_places⟩ := cd.def_ 3 (d := d_is_lot_of_places) rfl
  have F_is_lot_of_places : Fun K "is_lot_of_places" "is_lot_of_places" s_is_lot_of_places (He.ga K "is_lot_of_places") fd_is_lot_of_places := funOf W_is_lot_of_places
  have D_is_lot_of_places : Df K mg "is_lot_of_places" s_is_lot_of_places ["value", "size"] := ⟨_, _, F_is_lot_of_places, g_is_lot_of_places, F_is_lot_of_places.binds fun _ _ _ _ _ _ us hl => match us, hl with | [_, _], _ => rfl⟩
  have g_is_unlike : mg "_is_unlike" = some (.ref (He.ga K "_is_unlike")) := He.glo_ok X G (cd.fact 4 (f := .glo "_is_unlike") rfl)
  obtain ⟨fd_is_unlike, W_is_unlike⟩ := cd.def_ 4 (d := d_is_unlike) rfl
  have F_is_unlike : Fun K "_is_unlike" "_is_unlike" s_is_unlike (He.ga K "_is_unlike") fd_is_unlike := funOf W_is_unlike
  have D_is_unlike : Df K mg "_is_unlike" s_is_unlike ["value", "size"] := ⟨_, _, F_is_unlike, g_is_unlike, F_is_unlike.binds fun _ _ _ _ _ _ us hl => match us, hl with | [_, _], _ => rfl⟩
  have g_is_jobs : mg "_is_jobs" = some (.ref (He.ga K "_is_jobs")) := He.glo_ok X G (cd.fact 5 (f := .glo "_is_jobs") rfl)
  obtain ⟨fd_is_jobs, W_is_jobs⟩ := cd.def_ 5 (d := d_is_jobs) rfl
  have F_is_jobs : Fun K "_is_jobs" "_is_jobs" s_is_jobs (He.ga K "_is_jobs") fd_is_jobs := funOf W_is_jobs
  have D_is_jobs : Df K mg "_is_jobs" s_is_jobs ["value", "size", "many"] := ⟨_, _, F_is_jobs, g_is_jobs, F_is_jobs.binds fun _ _ _ _ _ _ us hl => match us, hl with | [_, _, _], _ => rfl⟩
  have g_is_bench : mg "_is_bench" = some (.ref (He.ga K "_is_bench")) := He.glo_ok X G (cd.fact 6 (f := .glo "_is_bench") rfl)
  obtain ⟨fd_is_bench, W_is_bench⟩ := cd.def_ 6 (d := d_is_bench) rfl
  have F_is_bench : Fun K "_is_bench" "_is_bench" s_is_bench (He.ga K "_is_bench") fd_is_bench := funOf W_is_bench
  have D_is_bench : Df K mg "_is_bench" s_is_bench ["value", "size"] := ⟨_, _, F_is_bench, g_is_bench, F_is_bench.binds fun _ _ _ _ _ _ us hl => match us, hl with | [_, _], _ => rfl⟩
  have g_is_sum : mg "_is_sum" = some (.ref (He.ga K "_is_sum")) := He.glo_ok X G (cd.fact 7 (f := .glo "_is_sum") rfl)
  obtain ⟨fd_is_sum, W_is_sum⟩ := cd.def_ 7 (d := d_is_sum) rfl
  have F_is_sum : Fun K "_is_sum" "_is_sum" s_is_sum (He.ga K "_is_sum") fd_is_sum := funOf W_is_sum
  have D_is_sum : Df K mg "_is_sum" s_is_sum ["value", "size"] := ⟨_, _, F_is_sum, g_is_sum, F_is_sum.binds fun _ _ _ _ _ _ us hl => match us, hl with | [_, _], _ => rfl⟩
  have g_is_table : mg "_is_table" = some (.ref (He.ga K "_is_table")) := He.glo_ok X G (cd.fact 8 (f := .glo "_is_table") rfl)
  obtain ⟨fd_is_table, W_is_table⟩ := cd.def_ 8 (d := d_is_table) rfl
  have F_is_table : Fun K "_is_table" "_is_table" s_is_table (He.ga K "_is_table") fd_is_table := funOf W_is_table
  have D_is_table : Df K mg "_is_table" s_is_table ["value", "size"] := ⟨_, _, F_is_table, g_is_table, F_is_table.binds fun _ _ _ _ _ _ us hl => match us, hl with | [_, _], _ => rfl⟩
  have g_is_wish : mg "is_wish" = some (.ref (He.ga K "is_wish")) := He.glo_ok X G (cd.fact 9 (f := .glo "is_wish") rfl)
  obtain ⟨fd_is_wish, W_is_wish⟩ := cd.def_ 9 (d := d_is_wish) rfl
  have F_is_wish : Fun K "is_wish" "is_wish" s_is_wish (He.ga K "is_wish") fd_is_wish := funOf W_is_wish
  have D_is_wish : Df K mg "is_wish" s_is_wish ["value", "size"] := ⟨_, _, F_is_wish, g_is_wish, F_is_wish.binds fun _ _ _ _ _ _ us hl => match us, hl with | [_, _], _ => rfl⟩
  have g_is_name : mg "is_name" = some (.ref (He.ga K "is_name")) := He.glo_ok X G (cd.fact 10 (f := .glo "is_name") rfl)
  obtain ⟨fd_is_name, W_is_name⟩ := cd.def_ 10 (d := d_is_name) rfl
  have F_is_name : Fun K "is_name" "is_name" s_is_name (He.ga K "is_name") fd_is_name := funOf W_is_name
  have D_is_name : Df K mg "is_name" s_is_name ["value"] := ⟨_, _, F_is_name, g_is_name, F_is_name.binds fun _ _ _ _ _ _ us hl => match us, hl with | [_], _ => rfl⟩
  have g_is_pair : mg "is_pair" = some (.ref (He.ga K "is_pair")) := He.glo_ok X G (cd.fact 11 (f := .glo "is_pair") rfl)
  obtain ⟨fd_is_pair, W_is_pair⟩ := cd.def_ 11 (d := d_is_pair) rfl
  have F_is_pair : Fun K "is_pair" "is_pair" s_is_pair (He.ga K "is_pair") fd_is_pair := funOf W_is_pair
  have D_is_pair : Df K mg "is_pair" s_is_pair ["value"] := ⟨_, _, F_is_pair, g_is_pair, F_is_pair.binds fun _ _ _ _ _ _ us hl => match us, hl with | [_], _ => rfl⟩
  have g_is_unknown : mg "_is_unknown" = some (.ref (He.ga K "_is_unknown")) := He.glo_ok X G (cd.fact 12 (f := .glo "_is_unknown") rfl)
  obtain ⟨fd_is_unknown, W_is_unknown⟩ := cd.def_ 12 (d := d_is_unknown) rfl
  have F_is_unknown : Fun K "_is_unknown" "_is_unknown" s_is_unknown (He.ga K "_is_unknown") fd_is_unknown := funOf W_is_unknown
  have D_is_unknown : Df K mg "_is_unknown" s_is_unknown ["value"] := ⟨_, _, F_is_unknown, g_is_unknown, F_is_unknown.binds fun _ _ _ _ _ _ us hl => match us, hl with | [_], _ => rfl⟩
  have g_check_unknowns : mg "_check_unknowns" = some (.ref (He.ga K "_check_unknowns")) := He.glo_ok X G (cd.fact 13 (f := .glo "_check_unknowns") rfl)
  obtain ⟨fd_check_unknowns, W_check_unknowns⟩ := cd.def_ 13 (d := d_check_unknowns) rfl
  have F_check_unknowns : Fun K "_check_unknowns" "_check_unknowns" s_check_unknowns (He.ga K "_check_unknowns") fd_check_unknowns := funOf W_check_unknowns
  have D_check_unknowns : Df K mg "_check_unknowns" s_check_unknowns ["value"] := ⟨_, _, F_check_unknowns, g_check_unknowns, F_check_unknowns.binds fun _ _ _ _ _ _ us hl => match us, hl with | [_], _ => rfl⟩
  have g_check_wishes : mg "_check_wishes" = some (.ref (He.ga K "_check_wishes")) := He.glo_ok X G (cd.fact 14 (f := .glo "_check_wishes") rfl)
  obtain ⟨fd_check_wishes, W_check_wishes⟩ := cd.def_ 14 (d := d_check_wishes) rfl
  have F_check_wishes : Fun K "_check_wishes" "_check_wishes" s_check_wishes (He.ga K "_check_wishes") fd_check_wishes := funOf W_check_wishes
  have D_check_wishes : Df K mg "_check_wishes" s_check_wishes ["value", "size"] := ⟨_, _, F_check_wishes, g_check_wishes, F_check_wishes.binds fun _ _ _ _ _ _ us hl => match us, hl with | [_, _], _ => rfl⟩
  have g_check_goal : mg "_check_goal" = some (.ref (He.ga K "_check_goal")) := He.glo_ok X G (cd.fact 15 (f := .glo "_check_goal") rfl)
  obtain ⟨fd_check_goal, W_check_goal⟩ := cd.def_ 15 (d := d_check_goal) rfl
  have F_check_goal : Fun K "_check_goal" "_check_goal" s_check_goal (He.ga K "_check_goal") fd_check_goal := funOf W_check_goal
  have D_check_goal : Df K mg "_check_goal" s_check_goal ["value", "size"] := ⟨_, _, F_check_goal, g_check_goal, F_check_goal.binds fun _ _ _ _ _ _ us hl => match us, hl with | [_, _], _ => rfl⟩
  have g_rows_of : mg "rows_of" = some (.ref (He.ga K "rows_of")) := He.glo_ok X G (cd.fact 16 (f := .glo "rows_of") rfl)
  obtain ⟨fd_rows_of, W_rows_of⟩ := cd.def_ 16 (d := d_rows_of) rfl
  have F_rows_of : Fun K "rows_of" "rows_of" s_rows_of (He.ga K "rows_of") fd_rows_of := funOf W_rows_of
  have D_rows_of : Df K mg "rows_of" s_rows_of ["task"] := ⟨_, _, F_rows_of, g_rows_of, F_rows_of.binds fun _ _ _ _ _ _ us hl => match us, hl with | [_], _ => rfl⟩
  have g_free_ways : mg "free_ways" = some (.ref (He.ga K "free_ways")) := He.glo_ok X G (cd.fact 17 (f := .glo "free_ways") rfl)
  obtain ⟨fd_free_ways, W_free_ways⟩ := cd.def_ 17 (d := d_free_ways) rfl
  have F_free_ways : Fun K "free_ways" "free_ways" s_free_ways (He.ga K "free_ways") fd_free_ways := funOf W_free_ways
  have D_free_ways : Df K mg "free_ways" s_free_ways ["task"] := ⟨_, _, F_free_ways, g_free_ways, F_free_ways.binds fun _ _ _ _ _ _ us hl => match us, hl with | [_], _ => rfl⟩
  have g_rounded_by_signs : mg "rounded_by_signs" = some (.ref (He.ga K "rounded_by_signs")) := He.glo_ok X G (cd.fact 18 (f := .glo "rounded_by_signs") rfl)
  obtain ⟨fd_rounded_by_signs, W_rounded_by_signs⟩ := cd.def_ 18 (d := d_rounded_by_signs) rfl
  have F_rounded_by_signs : Fun K "rounded_by_signs" "rounded_by_signs" s_rounded_by_signs (He.ga K "rounded_by_signs") fd_rounded_by_signs := funOf W_rounded_by_signs
  have D_rounded_by_signs : Df K mg "rounded_by_signs" s_rounded_by_signs ["task", "start"] := ⟨_, _, F_rounded_by_signs, g_rounded_by_signs, F_rounded_by_signs.binds fun _ _ _ _ _ _ us hl => match us, hl with | [_, _], _ => rfl⟩
  have g_nearest_point : mg "nearest_point" = some (.ref (He.ga K "nearest_point")) := He.glo_ok X G (cd.fact 19 (f := .glo "nearest_point") rfl)
  obtain ⟨fd_nearest_point, W_nearest_point⟩ := cd.def_ 19 (d := d_nearest_point) rfl
  have F_nearest_point : Fun K "nearest_point" "nearest_point" s_nearest_point (He.ga K "nearest_point") fd_nearest_point := funOf W_nearest_point
  have D_nearest_point : Df K mg "nearest_point" s_nearest_point ["start"] := ⟨_, _, F_nearest_point, g_nearest_point, F_nearest_point.binds fun _ _ _ _ _ _ us hl => match us, hl with | [_], _ => rfl⟩
  have g_Lany : mg "_law_any" = some (.ref (He.ga K "_law_any")) := He.glo_ok X G (cd.fact 20 (f := .glo "_law_any") rfl)
  obtain ⟨fd_Lany, W_Lany⟩ := cd.def_ 20 (d := d_Lany) rfl
  have F_Lany : Fun K "_law_any" "_law_any" s_Lany (He.ga K "_law_any") fd_Lany := funOf W_Lany
  have D_Lany : Df K mg "_law_any" s_Lany ["deal", "bound"] := ⟨_, _, F_Lany, g_Lany, F_Lany.binds fun _ _ _ _ _ _ us hl => match us, hl with | [_, _], _ => rfl⟩
  have g_Ldraw : mg "_law_draw" = some (.ref (He.ga K "_law_draw")) := He.glo_ok X G (cd.fact 21 (f := .glo "_law_draw") rfl)
  obtain ⟨fd_Ldraw, W_Ldraw⟩ := cd.def_ 21 (d := d_Ldraw) rfl
  have F_Ldraw : Fun K "_law_draw" "_law_draw" s_Ldraw (He.ga K "_law_draw") fd_Ldraw := funOf W_Ldraw
  have D_Ldraw : Df K mg "_law_draw" s_Ldraw ["script", "salt"] := ⟨_, _, F_Ldraw, g_Ldraw, F_Ldraw.binds fun _ _ _ _ _ _ us hl => match us, hl with | [_, _], _ => rfl⟩
  have g_Lof : mg "_law_of" = some (.ref (He.ga K "_law_of")) := He.glo_ok X G (cd.fact 22 (f := .glo "_law_of") rfl)
  obtain ⟨fd_Lof, W_Lof⟩ := cd.def_ 22 (d := d_Lof) rfl
  have F_Lof : Fun K "_law_of" "_law_of" s_Lof (He.ga K "_law_of") fd_Lof := funOf W_Lof
  have D_Lof : Df K mg "_law_of" s_Lof ["deal", "some"] := ⟨_, _, F_Lof, g_Lof, F_Lof.binds fun _ _ _ _ _ _ us hl => match us, hl with | [_, _], _ => rfl⟩
  have g_Llow : mg "_law_low" = some (.ref (He.ga K "_law_low")) := He.glo_ok X G (cd.fact 23 (f := .glo "_law_low") rfl)
  obtain ⟨fd_Llow, W_Llow⟩ := cd.def_ 23 (d := d_Llow) rfl
  have F_Llow : Fun K "_law_low" "_law_low" s_Llow (He.ga K "_law_low") fd_Llow := funOf W_Llow
  have D_Llow : Df K mg "_law_low" s_Llow ["top", "bottom"] := ⟨_, _, F_Llow, g_Llow, F_Llow.binds fun _ _ _ _ _ _ us hl => match us, hl with | [_, _], _ => rfl⟩
  have g_Ltotal : mg "_law_total" = some (.ref (He.ga K "_law_total")) := He.glo_ok X G (cd.fact 24 (f := .glo "_law_total") rfl)
  obtain ⟨fd_Ltotal, W_Ltotal⟩ := cd.def_ 24 (d := d_Ltotal) rfl
  have F_Ltotal : Fun K "_law_total" "_law_total" s_Ltotal (He.ga K "_law_total") fd_Ltotal := funOf W_Ltotal
  have D_Ltotal : Df K mg "_law_total" s_Ltotal ["amounts", "start"] := ⟨_, _, F_Ltotal, g_Ltotal, F_Ltotal.binds fun _ _ _ _ _ _ us hl => match us, hl with | [_, _], _ => rfl⟩
  have g_Lstart : mg "_law_start" = some (.ref (He.ga K "_law_start")) := He.glo_ok X G (cd.fact 25 (f := .glo "_law_start") rfl)
  obtain ⟨fd_Lstart, W_Lstart⟩ := cd.def_ 25 (d := d_Lstart) rfl
  have F_Lstart : Fun K "_law_start" "_law_start" s_Lstart (He.ga K "_law_start") fd_Lstart := funOf W_Lstart
  have D_Lstart : Df K mg "_law_start" s_Lstart ["deal", "many"] := ⟨_, _, F_Lstart, g_Lstart, F_Lstart.binds fun _ _ _ _ _ _ us hl => match us, hl with | [_, _], _ => rfl⟩
  have g_Lways : mg "_law_ways" = some (.ref (He.ga K "_law_ways")) := He.glo_ok X G (cd.fact 26 (f := .glo "_law_ways") rfl)
  obtain ⟨fd_Lways, W_Lways⟩ := cd.def_ 26 (d := d_Lways) rfl
  have F_Lways : Fun K "_law_ways" "_law_ways" s_Lways (He.ga K "_law_ways") fd_Lways := funOf W_Lways
  have D_Lways : Df K mg "_law_ways" s_Lways ["rows", "at"] := ⟨_, _, F_Lways, g_Lways, F_Lways.binds fun _ _ _ _ _ _ us hl => match us, hl with | [_, _], _ => rfl⟩
  have g_Lrounded : mg "_law_rounded" = some (.ref (He.ga K "_law_rounded")) := He.glo_ok X G (cd.fact 27 (f := .glo "_law_rounded") rfl)
  obtain ⟨fd_Lrounded, W_Lrounded⟩ := cd.def_ 27 (d := d_Lrounded) rfl
  have F_Lrounded : Fun K "_law_rounded" "_law_rounded" s_Lrounded (He.ga K "_law_rounded") fd_Lrounded := funOf W_Lrounded
  have D_Lrounded : Df K mg "_law_rounded" s_Lrounded ["unknowns", "rows", "goal", "start"] := ⟨_, _, F_Lrounded, g_Lrounded, F_Lrounded.binds fun _ _ _ _ _ _ us hl => match us, hl with | [_, _, _, _], _ => rfl⟩
  have g_Lkeeps : mg "_law_keeps" = some (.ref (He.ga K "_law_keeps")) := He.glo_ok X G (cd.fact 28 (f := .glo "_law_keeps") rfl)
  obtain ⟨fd_Lkeeps, W_Lkeeps⟩ := cd.def_ 28 (d := d_Lkeeps) rfl
  have F_Lkeeps : Fun K "_law_keeps" "_law_keeps" s_Lkeeps (He.ga K "_law_keeps") fd_Lkeeps := funOf W_Lkeeps
  have D_Lkeeps : Df K mg "_law_keeps" s_Lkeeps ["unknowns", "rows", "start"] := ⟨_, _, F_Lkeeps, g_Lkeeps, F_Lkeeps.binds fun _ _ _ _ _ _ us hl => match us, hl with | [_, _, _], _ => rfl⟩
  have g_Lrow : mg "_law_row" = some (.ref (He.ga K "_law_row")) := He.glo_ok X G (cd.fact 29 (f := .glo "_law_row") rfl)
  obtain ⟨fd_Lrow, W_Lrow⟩ := cd.def_ 29 (d := d_Lrow) rfl
  have F_Lrow : Fun K "_law_row" "_law_row" s_Lrow (He.ga K "_law_row") fd_Lrow := funOf W_Lrow
  have D_Lrow : Df K mg "_law_row" s_Lrow ["deal", "kinds", "start"] := ⟨_, _, F_Lrow, g_Lrow, F_Lrow.binds fun _ _ _ _ _ _ us hl => match us, hl with | [_, _, _], _ => rfl⟩
  have g_Lright : mg "_law_right" = some (.ref (He.ga K "_law_right")) := He.glo_ok X G (cd.fact 30 (f := .glo "_law_right") rfl)
  obtain ⟨fd_Lright, W_Lright⟩ := cd.def_ 30 (d := d_Lright) rfl
  have F_Lright : Fun K "_law_right" "_law_right" s_Lright (He.ga K "_law_right") fd_Lright := funOf W_Lright
  have D_Lright : Df K mg "_law_right" s_Lright ["unknowns", "rows", "others", "goal", "start"] := ⟨_, _, F_Lright, g_Lright, F_Lright.binds fun _ _ _ _ _ _ us hl => match us, hl with | [_, _, _, _, _], _ => rfl⟩
  have g_law : mg "law" = some (.ref (He.ga K "law")) := He.glo_ok X G (cd.fact 31 (f := .glo "law") rfl)
  obtain ⟨fd_law, W_law⟩ := cd.def_ 31 (d := d_law) rfl
  have F_law : Fun K "law" "law" s_law (He.ga K "law") fd_law := funOf W_law
  have g_Task : mg "Task" = some (.ref (He.ga K "Task")) := He.glo_ok X G (cd.fact 32 (f := .glo "Task") rfl)
  have g_WORDS : mg "WORDS" = some (.ref (He.ga K "WORDS")) := He.glo_ok X G (cd.fact 33 (f := .glo "WORDS") rfl)
  have g_WISH_TESTS : mg "WISH_TESTS" = some (.ref (He.ga K "WISH_TESTS")) := He.glo_ok X G (cd.fact 34 (f := .glo "WISH_TESTS") rfl)
  obtain ⟨t2, z_LONG⟩ := He.int_ok X G (cd.fact 35 (f := .int "LONGEST_NAME" 6) rfl)
  obtain ⟨t3, z_LETT⟩ := He.str_ok X G (cd.fact 36 (f := .str "LETTERS" "abcdefghijklmnopqrstuvwxyz") rfl)
  have cT : Cls K (He.ga K "Task") := He.cls_ok (cd.fact 37 (f := .cls "Task") rfl)
  have n_unknowns : NoAttr K (He.ga K "Task") "unknowns" := He.noat_ok (cd.fact 38 (f := .noat "Task" "unknowns") rfl)
  have n_wishes : NoAttr K (He.ga K "Task") "wishes" := He.noat_ok (cd.fact 39 (f := .noat "Task" "wishes") rfl)
  have n_goal : NoAttr K (He.ga K "Task") "goal" := He.noat_ok (cd.fact 40 (f := .noat "Task" "goal") rfl)
  have mT : Mk K (He.ga K "Task") (He.ma K (He.ga K "Task") "__init__") := He.mkr_ok (cd.fact 41 (f := .mkr "Task") rfl)
  have z_len : mg "len" = none := He.free_ok X G (cd.fact 42 (f := .free "len") rfl)
  have z_range : mg "range" = none := He.free_ok X G (cd.fact 43 (f := .free "range") rfl)
  have z_int : mg "int" = none := He.free_ok X G (cd.fact 44 (f := .free "int") rfl)
  have z_abs : mg "abs" = none := He.free_ok X G (cd.fact 45 (f := .free "abs") rfl)
  have z_all : mg "all" = none := He.free_ok X G (cd.fact 46 (f := .free "all") rfl)
  have z_sum : mg "sum" = none := He.free_ok X G (cd.fact 47 (f := .free "sum") rfl)
  have z_repr : mg "repr" = none := He.free_ok X G (cd.fact 48 (f := .free "repr") rfl)
  have z_tuple : mg "tuple" = none := He.free_ok X G (cd.fact 49 (f := .free "tuple") rfl)
  have z_bool : mg "bool" = none := He.free_ok X G (cd.fact 50 (f := .free "bool") rfl)
  have z_str : mg "str" = none := He.free_ok X G (cd.fact 51 (f := .free "str") rfl)
  have z_zip : mg "zip" = none := He.free_ok X G (cd.fact 52 (f := .free "zip") rfl)
  have z_any : mg "any" = none := He.free_ok X G (cd.fact 53 (f := .free "any") rfl)
  have z_set : mg "set" = none := He.free_ok X G (cd.fact 54 (f := .free "set") rfl)
  have z_enumerate : mg "enumerate" = none := He.free_ok X G (cd.fact 55 (f := .free "enumerate") rfl)
  have z_isinstance : mg "isinstance" = none := He.free_ok X G (cd.fact 56 (f := .free "isinstance") rfl)
  obtain ⟨fd_Ti, W_Ti⟩ := cd.def_ 32 (d := d_Ti) rfl
  have F_Ti : Fun K "__init__" "Task.__init__" s_Task_init (He.ma K (He.ga K "Task") "__init__") fd_Ti := funOf W_Ti
  have B_Ti : Binds K fd_Ti ["self", "unknowns", "wishes", "goal"] [] := F_Ti.binds fun _ _ _ _ _ _ us hl => match us, hl with | [_, _, _, _], _ => rfl
  obtain ⟨es, nn, kd⟩ := c.t.tab 0 (t := (fun K => He.ga K "WISH_TESTS", ["sum", "unlike", "table", "either", "bench", "room", "round"])) rfl
  have kd : L2.KDict K w (He.ga K "WISH_TESTS") es nn := kd
  have T : Txt K mg w (He.ga K "WORDS") (He.ga K "WISH_TESTS") es nn := ⟨z_len, z_range, z_int, z_abs, z_all, z_sum, z_repr, z_tuple, z_bool, z_str, z_zip, z_any, z_set, z_enumerate, z_isinstance, ⟨_, z_LONG, ⟨_, rfl⟩⟩, ⟨_, z_LETT, ⟨_, rfl⟩⟩, ⟨_, g_WORDS, rfl⟩, ⟨_, g_WISH_TESTS, rfl⟩, fun H => tupB_ok x3 H, kd⟩
  have CCt : CC K (He.ga K "Task") := ⟨cT, n_unknowns, n_wishes, n_goal⟩
  have efa : fa = He.ga K "law" := by
    have e := hfa.symm.trans g_law
    cases e
    rfl
  subst efa
  obtain ⟨u0, e0, r0⟩ := He.valsB_ok x4 (q := ("sum", .glo "_is_sum")) (List.mem_cons_self ..)
  obtain ⟨u1, e1, r1⟩ := He.valsB_ok x4 (q := ("unlike", .glo "_is_unlike")) (List.mem_cons_of_mem _ (List.mem_cons_self ..))
  obtain ⟨u2, e2, r2⟩ := He.valsB_ok x4 (q := ("bench", .glo "_is_bench")) (List.mem_cons_of_mem _ (List.mem_cons_of_mem _ (List.mem_cons_self ..)))
  obtain ⟨u3, e3, r3⟩ := He.valsB_ok x4 (q := ("table", .glo "_is_table")) (List.mem_cons_of_mem _ (List.mem_cons_of_mem _ (List.mem_cons_of_mem _ (List.mem_cons_self ..))))
  refine ⟨fd_law, [], spLaw K, (fun p hp => by cases hp), (fun p hp => by cases hp), (fun p hp => by cases hp), ?_, ?_, ?_⟩
  · intro s u
    obtain ⟨oc, od, kV, doc, pm, an, cdv, ct, osl, rfl, lk, hc⟩ := F_law.ex
    exact .of_eq rfl
  · intro H a ns hl _ hH hS
    exact ⟨a, ns, rfl, hS, hl, fun _ => rfl⟩
  · intro base _ _ TB
    have h0 : CX0 = CX0 ∨ CX0 = L2.CX l.prog w := .inl rfl
    have a_is_whole : Cal l.prog w K mg base 1 "is_whole" spWhole [] := cal_of D_is_whole fun _ _ F => ok_is_whole F T
    have a_is_places : Cal l.prog w K mg base 2 "is_places" spPlaces [] := cal_of D_is_places fun _ _ F => ok_is_places F T a_is_whole
    have a_is_integers : Cal l.prog w K mg base 2 "is_integers" spInts [] := cal_of D_is_integers fun _ _ F => ok_is_integers F T a_is_whole
    have a_is_lot_of_places : Cal l.prog w K mg base 3 "is_lot_of_places" spLot [] := cal_of D_is_lot_of_places fun _ _ F => ok_is_lot_of_places F T a_is_places
    have a_is_unlike : Cal l.prog w K mg base 4 "_is_unlike" spUnlike [] := cal_of D_is_unlike fun _ _ F => ok_is_unlike F T a_is_lot_of_places
    have a_is_jobs : Cal l.prog w K mg base 4 "_is_jobs" spJobs [] := cal_of D_is_jobs fun _ _ F => ok_is_jobs F T a_is_integers a_is_lot_of_places
    have a_is_bench : Cal l.prog w K mg base 5 "_is_bench" spBench [] := cal_of D_is_bench fun _ _ F => ok_is_bench F T a_is_jobs
    have a_is_sum : Cal l.prog w K mg base 4 "_is_sum" spSum [] := cal_of D_is_sum fun _ _ F => ok_is_sum F T a_is_whole a_is_integers
    have a_is_table : Cal l.prog w K mg base 4 "_is_table" spTable [] := cal_of D_is_table fun _ _ F => ok_is_table F T a_is_places a_is_integers
    have TS : Tst l.prog w K mg base (He.ga K "WISH_TESTS") (He.ga K "_is_sum") (He.ga K "_is_unlike") (He.ga K "_is_bench") (He.ga K "_is_table") :=
      ⟨⟨_, _, (ok_is_sum F_is_sum T a_is_whole a_is_integers).mono (by decide), F_is_sum.kp, F_is_sum.binds fun _ _ _ _ _ _ us hl => match us, hl with | [_, _], _ => rfl⟩, ⟨_, _, (ok_is_unlike F_is_unlike T a_is_lot_of_places).mono (by decide), F_is_unlike.kp, F_is_unlike.binds fun _ _ _ _ _ _ us hl => match us, hl with | [_, _], _ => rfl⟩, ⟨_, _, ok_is_bench F_is_bench T a_is_jobs, F_is_bench.kp, F_is_bench.binds fun _ _ _ _ _ _ us hl => match us, hl with | [_, _], _ => rfl⟩, ⟨_, _, (ok_is_table F_is_table T a_is_places a_is_integers).mono (by decide), F_is_table.kp, F_is_table.binds fun _ _ _ _ _ _ us hl => match us, hl with | [_, _], _ => rfl⟩, ⟨_, _, u0, kd.at_, kd.lit, e0, r0⟩, ⟨_, _, u1, kd.at_, kd.lit, e1, r1⟩, ⟨_, _, u2, kd.at_, kd.lit, e2, r2⟩, ⟨_, _, u3, kd.at_, kd.lit, e3, r3⟩, x5⟩
    have a_is_wish : Cal l.prog w K mg base 6 "is_wish" spWish [] := cal_of D_is_wish fun _ _ F => ok_is_wish F T TS
    have a_is_name : Cal l.prog w K mg base 1 "is_name" spName [] := cal_of D_is_name fun _ _ F => ok_is_name F T
    have a_is_pair : Cal l.prog w K mg base 2 "is_pair" spPair [] := cal_of D_is_pair fun _ _ F => ok_is_pair F T a_is_whole
    have a_is_unknown : Cal l.prog w K mg base 3 "_is_unknown" spUnknown [] := cal_of D_is_unknown fun _ _ F => ok_is_unknown F T a_is_name a_is_pair
    have a_check_unknowns : Cal l.prog w K mg base 4 "_check_unknowns" spChU [] := cal_of D_check_unknowns fun _ _ F => ok_check_unknowns F T a_is_unknown
    have a_check_wishes : Cal l.prog w K mg base 7 "_check_wishes" spChW [] := cal_of D_check_wishes fun _ _ F => ok_check_wishes F T a_is_wish
    have a_check_goal : Cal l.prog w K mg base 2 "_check_goal" spChG [] := cal_of D_check_goal fun _ _ F => ok_check_goal F T a_is_whole
    have mkT : Mak l.prog w K mg base 8 "Task" (He.ga K "Task") (spTask (He.ga K "Task")) [] := ⟨_, _, _, [], mT, ok_Task_init F_Ti cT ⟨n_unknowns, n_wishes, n_goal⟩ T a_check_unknowns a_check_wishes a_check_goal, g_Task, B_Ti, .nil⟩
    have a_rows_of : Cal l.prog w K mg base 1 "rows_of" (spRows (He.ga K "Task")) [] := cal_of D_rows_of fun _ _ F => ok_rows_of F T CCt
    have a_free_ways : Cal l.prog w K mg base 2 "free_ways" (spFree (He.ga K "Task")) [] := cal_of D_free_ways fun _ _ F => ok_free_ways F T CCt a_rows_of
    have k_free_ways_task : CalK l.prog w K mg base 2 "free_ways" ["task"] id (spFree (He.ga K "Task")) := mkK1 F_free_ways (ok_free_ways F_free_ways T CCt a_rows_of) h0 g_free_ways fun _ _ _ _ _ _ _ => rfl
    have a_rounded_by_signs : Cal l.prog w K mg base 3 "rounded_by_signs" (spRnd (He.ga K "Task")) [] := cal_of D_rounded_by_signs fun _ _ F => ok_rounded F T CCt a_free_ways
    have k_rounded_by_signs_start_task : CalK l.prog w K mg base 3 "rounded_by_signs" ["start", "task"] sw (spRnd (He.ga K "Task")) := mkK2 F_rounded_by_signs (ok_rounded F_rounded_by_signs T CCt a_free_ways) h0 g_rounded_by_signs fun _ _ _ _ _ _ _ _ => rfl
    have a_nearest_point : Cal l.prog w K mg base 1 "nearest_point" spNear [] := cal_of D_nearest_point fun _ _ F => ok_nearest F T
    have k_nearest_point_start : CalK l.prog w K mg base 1 "nearest_point" ["start"] id spNear := mkK1 F_nearest_point (ok_nearest F_nearest_point T) h0 g_nearest_point fun _ _ _ _ _ _ _ => rfl
    have a_Lany : Cal l.prog w K mg base 1 "_law_any" spDraw [] := cal_of D_Lany fun _ _ F => ok_draw F T
    have a_Ldraw : Cal l.prog w K mg base 1 "_law_draw" (spHeap K) [] := cal_of D_Ldraw fun _ _ F => ok_heap F T
    have a_Lof : Cal l.prog w K mg base 2 "_law_of" spPickL [] := cal_of D_Lof fun _ _ F => ok_pickL F T a_Lany
    have a_Llow : Cal l.prog w K mg base 1 "_law_low" spLow [] := cal_of D_Llow fun _ _ F => ok_low F T
    have a_Ltotal : Cal l.prog w K mg base 1 "_law_total" spTot [] := cal_of D_Ltotal fun _ _ F => ok_total F T
    have a_Lstart : Cal l.prog w K mg base 3 "_law_start" spStart [] := cal_of D_Lstart fun _ _ F => ok_start F T a_Lany a_Lof a_Llow
    have a_Lways : Cal l.prog w K mg base 1 "_law_ways" spLWays [] := cal_of D_Lways fun _ _ F => ok_Lways F T
    have a_Lrounded : Cal l.prog w K mg base 2 "_law_rounded" spLRnd [] := cal_of D_Lrounded fun _ _ F => ok_Lrounded F T a_Lways
    have a_Lkeeps : Cal l.prog w K mg base 2 "_law_keeps" spKeeps [] := cal_of D_Lkeeps fun _ _ F => ok_Lkeeps F T a_Ltotal
    have a_Lrow : Cal l.prog w K mg base 3 "_law_row" spLRow [] := cal_of D_Lrow fun _ _ F => ok_Lrow F T a_Lany a_Lof a_Ltotal
    have a_Lright : CalG l.prog w K mg base 10 "_law_right" spRight := ⟨_, _, _, ok_Lright F_Lright T mkT k_free_ways_task a_Lways a_Lrounded k_rounded_by_signs_start_task a_Lkeeps a_Ltotal, g_Lright, F_Lright.kp, F_Lright.binds fun _ _ _ _ _ _ us hl => match us, hl with | [_, _, _, _, _], _ => rfl⟩
    have LC : LawC l.prog w K mg base (He.ga K "Task") := ⟨a_Ldraw, a_Lany, a_Lof, a_Lstart, a_Lrow, a_Ltotal, a_Lkeeps, a_Lright, mkT, a_rounded_by_signs, a_nearest_point, k_nearest_point_start⟩
    exact ok_law F_law T LC
end M56

open PySem PySem.W PySem.Calls PyProof.Rows
set_option maxHeartbeats 0 in
theorem PySem.Challenge.cw_paperbest_k56_whole_rounding_by_signs_holds : PySem.Challenge.rw_paperbest_k56_whole_rounding_by_signs.Holds := by
  w_on; o_law; k_head; (case hw => w_witness2)
  refine Gd.walk_ofG (l := PySem.Challenge.rw_paperbest_k56_whole_rounding_by_signs) (n := 63) (k := 11) (x := "script") rfl (by decide) (by kernel_rfl) ⟨rfl, by decide, by decide⟩ ?F
  case F =>
    intro w mg fa h Y G hmg
    exact ⟨_, kIn_of Y, M56.facts (kIn_of Y) G hmg ⟨by show He.obsT _ _ _ _ = He.valT _ _ _; kernel_rfl, by kernel_rfl, (fun p hp => by cases hp), (fun p hp => by cases hp), (fun p hp => by cases hp)⟩⟩
