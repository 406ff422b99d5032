import PyProof.Rows.All
import Wide.All
import OpenK.AllK
import Wide.FinOn
import HandS.ForMost
import HandS.Exc
import HandS.WordsExc
import HandS.Codes
import HandS.IsInst
import HandS.Style
import HandS.TupAny
import HandS.TupLe
import HandS.Gcd
import HandS.Zip
import HandS.Deep
import HandS.Wide
import HandS.WideBits
import HandS.ExcInit
import HandS.ExcField
import HandS.TryMany
import HandS.Lambda
import HandS.EndTab
import HandS.Defaults
import HandS.HeadHook1
import HandS.HeadHook2
import HandS.HeadHook3
import HandS.HeadHook4
import KE.KExcIs
import PyProof.ReprRoads
import PyProof.ReprReads
import HandS.Base
import HandS.Call
import HandS.List
import HandS.Iter
import KE.GoesEnum
import KE.KMathG
import HandS.Comp
import KE.GoesMore
import KE.GoesZip
import KE.KDictZip
import HandS.SetFor
import HandS.Conv
import HandS.Sort
import HandS.More
import HandS.CallLocal
import HandS.Rev
import HandS.Small
import HandS.Dict
import HandS.Text
import PySem.Challenge.RW_paperbest_k66_whole_least_boxes_of_eithe
import HandS.Walk
import HandS.TupMul
import HandS.Head0
import HandS.Head1
import HandS.Head2
import HandS.Head3
import HandS.HeadEnd
import HandS.HeadWalk
import KE.KStateDown
import KE.KNestM
set_option Elab.async false
set_option linter.all false
set_option maxRecDepth 100000
set_option maxHeartbeats 8000000
/-! What the proofs of several laws share: own errors, isinstance of them, calls that may raise or go by keywords, try with named clauses, tables of code objects, the source of draws. -/
namespace Own
open PySem PySem.Spec PyProof.Rows L2
open C8 (Cal pe_c pe_gc pss_cut)
/-! ### own errors -/
/-- what the text says of an error's class: its name x, its class object at C, its __init__ at fI -/
structure ExT (K : PySem.W.Frag) (mg : Str → Option Value) (x : Str) (C fI : Addr) : Prop where
  oex : OexC K C
  iC : PySem.W.findIn K (.ref C) "__init__" = some (some (.ref fI))
  tI : PySem.W.typeIn K (.ref fI) = some (.type "function")
  gC : mg x = some (.ref C)
  xf : XfC K C
  noW : PySem.W.findIn K (.ref C) "word" = some none
/-- the fresh exception at a gets its word y: its dict stands at d -/
def exoHp (H : Hp) (a C d : Addr) (y : V) : Hp := upd (upd H d (exd d [("word", y)])) a (exo a C (some d))
def spInit (K : PySem.W.Frag) : Sp := fun vs H Q _ => ∃ (a C : Addr) (y : V), vs = [.ref a, y] ∧ OexC K C ∧ PySem.W.findIn K (.ref C) "word" = some none ∧ H a = some (exo a C none) ∧ ∀ d, H d = none → d ≠ a → Q .non (exoHp H a C d y)
/-- the class x at C with its __init__ -/
structure ExK (P : Program) (w : World) (K : PySem.W.Frag) (mg : Str → Option Value) (base : Heap) (x : Str) (C : Addr) : Prop where
  ex : ∃ (fI : Addr) (fd : FuncData), ExT K mg x C fI ∧ FnOk P w K mg base CX0 1 fI fd ["self", "word"] (spInit K) ∧ Binds K fd ["self", "word"] []
theorem ExK.T {P : Program} {w : World} {K : PySem.W.Frag} {mg : Str → Option Value} {base : Heap} {x : Str} {C : Addr} (c : ExK P w K mg base x C) : ∃ fI, ExT K mg x C fI := by
  obtain ⟨fI, fd, T, _⟩ := c.ex
  exact ⟨fI, T⟩
theorem ExK.oex {P : Program} {w : World} {K : PySem.W.Frag} {mg : Str → Option Value} {base : Heap} {x : Str} {C : Addr} (c : ExK P w K mg base x C) : OexC K C := c.T.choose_spec.oex
theorem ExK.noW {P : Program} {w : World} {K : PySem.W.Frag} {mg : Str → Option Value} {base : Heap} {x : Str} {C : Addr} (c : ExK P w K mg base x C) : PySem.W.findIn K (.ref C) "word" = some none := c.T.choose_spec.noW
/-- a new exception with the word y -/
def MkE (K : PySem.W.Frag) (C : Addr) (y : V) (H1 : Hp) (Q : XK) : Prop := [y].length ≤ 1000 ∧ ∀ a, H1 a = none → spInit K (.ref a :: ([y] ++ [])) (upd H1 a (exo a C none))
  (fun v H2 => v = .non ∧ ∃ (d : Addr) (fs : List (Str × V)), H2 a = some (exo a C (some d)) ∧ H2 d = some (exd d fs) ∧ H1 d = none ∧ Q (.ref C) (some d) (upd (del H2 a) d (.xd fs))) (fun _ _ _ => False)
theorem mkE_of {K : PySem.W.Frag} {C : Addr} {y : V} {H1 : Hp} {Q : XK} (T : OexC K C) (no : PySem.W.findIn K (.ref C) "word" = some none) (h : ∀ d H2, Same H1 H2 → H2 d = some (.xd [("word", y)]) → Q (.ref C) (some d) H2) : MkE K C y H1 Q := by
  refine ⟨show (1 : Nat) ≤ 1000 from by decide, fun a na => ⟨a, C, y, rfl, T, no, upd_same, fun d nd ne => ⟨rfl, d, _, upd_same, ?_, ?_, h d _ ?_ upd_same⟩⟩⟩
  · unfold exoHp
    rw [upd_ne ne, upd_same]
  · rw [upd_ne ne] at nd; exact nd
  · rw [upd_ne ne] at nd
    intro b o e
    have b1 : b ≠ d := ne_of_none e nd
    have b2 : b ≠ a := ne_of_none e na
    unfold exoHp
    rw [upd_ne b1, del_ne b2, upd_ne b2, upd_ne b1, upd_ne b2]
    exact e
def tNewE (K : PySem.W.Frag) (C : Addr) (te : TE) : L2.St → Hp → XK → Prop := fun σ H Q => te σ H fun y H1 => MkE K C y H1 Q
section
variable {X : Cx} {x : Str} {C : Addr} {e : Expr} {te : TE} {p pos pos2 : Pos} {j : Nat}
theorem pmk_new (c : ExK X.prog X.w X.K X.mg X.base x C) (hr : Room j X.A) (hk : 2 ≤ j) (hg : Gl X x) (he : PE X e te) (hdb : (x == ("__debug__" : Str)) = false := by decide)
    (hs : starEach [e] X.env = (false, eval e X.env) :: starEach [] X.env := by rfl) (hpl : (backTo pos (starEach [] X.env)).any (·.1) = false := by rfl) : PMk X (.Call (.Name x p) [e] [] pos) (tNewE X.K C te) := by
  obtain ⟨fI, fd, T, F, b⟩ := c.ex
  exact pmk_oex T.oex T.iC T.tI F (hr.mono hk) b .nil pass0 hg T.gC (pa_cons he pa_nil hs) hdb hs hpl
/-- raise x(e) -/
def tRaiseE (K : PySem.W.Frag) (W : WX) (C : Addr) (te : TE) : TS := fun _ σ H => tNewE K C te σ H fun cls d H' => W cls d σ H'
theorem ps_raiseE {W : WX} (hc : X.calm = true) (tk : L2.Takes X W) (c : ExK X.prog X.w X.K X.mg X.base x C) (hr : Room j X.A) (hk : 2 ≤ j) (hg : Gl X x) (he : PE X e te) (hdb : (x == ("__debug__" : Str)) = false := by decide)
    (hs : starEach [e] X.env = (false, eval e X.env) :: starEach [] X.env := by rfl) (hpl : (backTo pos (starEach [] X.env)).any (·.1) = false := by rfl) : PS X (.Raise (some (.Call (.Name x p) [e] [] pos)) none pos2) (tRaiseE X.K W C te) :=
  ps_raise hc tk (pmk_new c hr hk hg he hdb hs hpl)
end
/-! ### an exception as a value -/
/-- x(e) as a value -/
def tValE (K : PySem.W.Frag) (C : Addr) (te : TE) : TE := fun σ H Q => te σ H fun y H1 => ∀ a d H2, Same H1 H2 → H1 a = none → H1 d = none → H2 a = some (exo a C (some d)) → H2 d = some (exd d [("word", y)]) → Q (.ref a) H2
section
variable {X : Cx} {x : Str} {C : Addr} {e : Expr} {te : TE} {p pos : Pos} {j : Nat}
theorem pe_newE (c : ExK X.prog X.w X.K X.mg X.base x C) (hr : Room j X.A) (hk : 2 ≤ j) (hg : Gl X x) (ha : PE X e te) (hdb : (x == ("__debug__" : Str)) = false := by decide)
    (he : starEach [e] X.env = (false, eval e X.env) :: starEach [] X.env := by rfl) (hpl : (backTo pos (starEach [] X.env)).any (·.1) = false := by rfl) : PE X (.Call (.Name x p) [e] [] pos) (tValE X.K C te) := by
  obtain ⟨fI, fd, T, F1, hb⟩ := c.ex
  have T0 := T.oex
  obtain ⟨nm, q, N, bs, bm, sn, sub, ab, col, dd, k0, k1, k2, k3, k5, hC, hbm⟩ := T0.cls
  refine ⟨fun pins s σ H Q I h => ?_⟩
  refine wpAny_Call_Name_kw (ld_glob I hg T.gC ?_ hdb)
  refine PySem.W.callWith_K (h₀ := X.base) I.ok.mod.kin T0.kC (thn ((pa_cons ha pa_nil he).run pos pins s σ H (fun vs H1 => match vs with | [y] => ∀ a d H2, Same H1 H2 → H1 a = none → H1 d = none → H2 a = some (exo a C (some d)) → H2 d = some (exd d [("word", y)]) → Q (.ref a) H2 | _ => False) I h) fun us s1 ⟨vs, H1, I1, r1, q1⟩ => ⟨I1.kIn, ?_⟩) he hpl
  obtain ⟨y, rfl⟩ : ∃ y, vs = [y] := by
    match vs, q1 with
    | [y], _ => exact ⟨y, rfl⟩
  replace q1 : ∀ a d H2, Same H1 H2 → H1 a = none → H1 d = none → H2 a = some (exo a C (some d)) → H2 d = some (exd d [("word", y)]) → Q (.ref a) H2 := q1
  show wpAny _ _ (call (.ref C) us) _ _ _
  obtain ⟨hp, g, dr, tk, os⟩ := s1
  have hsz : hp.objs.size ≤ hp.objs.size + 1 := Nat.le_succ _
  have hn : H1 (hp.objs.size + 1) = none := I1.hok.fresh hsz
  have kk : ∀ b o, hp.get? b = some o → ((hp.push (PySem.W.kdv_tup us)).push (PySem.HandSPX.excO C hp.objs.size)).get? b = some o := fun b o e => Heap.get?_push_of_some _ (Heap.get?_push_of_some _ e)
  have hget : ((hp.push (PySem.W.kdv_tup us)).push (PySem.HandSPX.excO C hp.objs.size)).get? (hp.objs.size + 1) = some (PySem.HandSPX.excO C hp.objs.size) := by heap_get
  have I2 : Inv X pins σ (upd H1 (hp.objs.size + 1) (exo (hp.objs.size + 1) C none)) ⟨(hp.push (PySem.W.kdv_tup us)).push (PySem.HandSPX.excO C hp.objs.size), g, dr, tk, os⟩ :=
    I1.laid (t' := tk) (a := hp.objs.size + 1) (o := exo (hp.objs.size + 1) C none) (h' := (hp.push (PySem.W.kdv_tup us)).push (PySem.HandSPX.excO C hp.objs.size)) kk hsz (exo_ok hget)
  have r2 : Vals [V.ref (hp.objs.size + 1), y] (Value.ref (hp.objs.size + 1) :: us) := .cons rfl r1
  have hl : (Value.ref (hp.objs.size + 1) :: us ++ []).length = 2 := by rw [List.append_nil]; exact r2.length.symm
  have hus : us.length ≤ sizeLine := by
    rw [← Paired.length r1, sizeLine_eq]
    exact (by decide : 1 ≤ 16777216)
  have hsp : spInit X.K [V.ref (hp.objs.size + 1), y] (upd H1 (hp.objs.size + 1) (exo (hp.objs.size + 1) C none)) (fun v H2 => v = .non ∧ ∃ d, H1 d = none ∧ Same H1 H2 ∧ H2 (hp.objs.size + 1) = some (exo (hp.objs.size + 1) C (some d)) ∧ H2 d = some (exd d [("word", y)])) (fun _ _ _ => False) := by
    refine ⟨_, C, y, rfl, T0, T.noW, upd_same, fun d nd ne => ⟨rfl, d, ?_, ?_, upd_same, ?_⟩⟩
    · rw [upd_ne ne] at nd; exact nd
    · rw [upd_ne ne] at nd
      intro b o e
      have b1 : b ≠ d := ne_of_none e nd
      have b2 : b ≠ hp.objs.size + 1 := ne_of_none e hn
      unfold exoHp
      rw [upd_ne b2, upd_ne b1, upd_ne b2]
      exact e
    · unfold exoHp
      rw [upd_ne ne, upd_same]
  refine wpAny_call (PySem.HandSPX.call_own F.excBase_ValueError (fun Y => PySem.HandSPX.refsVE_contains Y bm hbm) (I1.kIn _ _ hC) (PySem.W.looks_findIn I1.kIn T.iC) (fun self => PySem.W.bind_fn I1.kIn self T.tI) hus
    (codeAny_mono ((F1.mono (show 1 ≤ 1 from Nat.le_refl _)).run _ X.stack _ _ ⟨Value.ref (hp.objs.size + 1) :: us, []⟩ (Value.ref (hp.objs.size + 1) :: us ++ []) _ _ (fun _ _ _ => False) ((hr.mono hk).make C us []) (I2.env0.make C us []) (hb _ (Value.ref (hp.objs.size + 1) :: us) I2.kIn hl) (by rw [List.append_nil]; exact r2) hsp) fun r s' hq' => ?_))
  cases r with
  | error er => exact (show False from hq').elim
  | ok fl =>
    cases fl with
    | ret u =>
      obtain ⟨v, H2, os2, bare2, un2, hok2, rv, ev, d, nd, sm, ea, ed⟩ := hq'
      subst ev
      obtain ⟨h2, g2, d2, t2, os'⟩ := s'
      refine ⟨rv, ?_⟩
      have J := I2.call' (ch := []) os2 un2 hok2 bare2 (fun b z => absurd z (by simp))
      exact ⟨.ref (hp.objs.size + 1), H2, J, rfl, q1 _ d H2 sm hn nd ea ed⟩
    | next => exact False.elim hq'
    | brk => exact False.elim hq'
    | cont => exact False.elim hq'
end
theorem same_upd {H : Hp} {p : Addr} {o : HO} (h : H p = none) : Same H (upd H p o) := fun b x e => by
  rw [upd_ne (ne_of_none e h)]; exact e
theorem same_at {H0 H : Hp} {D : Addr} {o : HO} (s : Same H0 H) (n : H0 D = none) : Same H0 (upd H D o) := fun b x e => by
  rw [upd_ne (ne_of_none e n)]; exact s _ _ e
theorem sq_tup {K : PySem.W.Frag} {H : Hp} {p : Addr} {xs : List V} (h : H p = some (.tup xs)) : SqT K H p xs := .inl (.inl h)
theorem sq_lst {K : PySem.W.Frag} {H : Hp} {p : Addr} {xs : List V} (h : H p = some (.lst xs)) : SqL K H p xs := .inl (.inl h)
theorem ne_of {H : Hp} {a b : Addr} {x y : HO} (ha : H a = some x) (hb : H b = some y) (n : x ≠ y) : a ≠ b := fun z => by
  rw [z, hb] at ha
  exact n (Option.some.inj ha).symm
/-! ### isinstance, of own errors too -/
structure IsE (K : PySem.W.Frag) (C : Addr) : Prop where
  cl : (PySem.W.clsIn K C).isSome = true
  ga : PySem.W.findIn K (.ref C) "__getattribute__" = some (some (.builtin "BaseException.__getattribute__"))
  gg : PySem.W.findIn K (.ref C) "__getattr__" = some none
  exC : PySem.W.subIn K (.ref C) (.type "BaseException") = some true
  ha : PySem.W.findIn K (.ref C) "__class__" = some (some (.builtin "object.__class__"))
  hn : PySem.W.specialIn K (.builtin "object.__class__") "__get__" = some (some (.builtin "getset_descriptor.__get__"))
  htk : PySem.W.takesIn K (.builtin "object.__class__") = some true
  hm : PySem.W.mroIn K C (.type "object") = some true
inductive TyE (K : PySem.W.Frag) (H : Hp) : V → Value → Prop where
  | base {x : V} {t : Value} (h : TyX K H x t) : TyE K H x t
  | exc {a C d : Addr} {fs : List (Str × V)} (T : IsE K C) (e : H a = some (exo a C (some d))) (f : H d = some (exd d fs)) : TyE K H (.ref a) (.ref C)
def rIsE (K : PySem.W.Frag) : List V → Hp → VK → Prop := fun xs H Q => ∃ (x : V) (t : Value) (n : String) (b : Bool), xs = [x, .ty n] ∧ TyE K H x t ∧ PySem.W.kitOne K t (.type n) = some b ∧ Q (.bl b) H
section
variable {X : Cx}
theorem call_isE : CallR X (.builtin "isinstance") (rIsE X.K) := by
  intro pins s σ H xs us Q I r h
  obtain ⟨x, t, n, b, rfl, ty, e, q⟩ := h
  cases ty with
  | base ty => exact call_isi pins s σ H _ us Q I r ⟨x, .ty n, t, .type n, b, rfl, .ty n, ty, e, q⟩
  | @exc a C d fs T ea ed =>
    obtain ⟨u1, u2, rfl, r1, r2⟩ := vals2 r
    cases (show u1 = Value.ref a from r1)
    cases (show u2 = Value.type n from r2)
    obtain ⟨t1, ho⟩ := exo_at I.hok ea
    obtain ⟨mA, ⟨od, es, ep, hd, hrest⟩, rel⟩ := exd_at I.hok ed
    have J : PySem.W.InstAt s.heap a { cls := .ref C, dict := some d, data := .fields #[.ref t1, .none, .none, .none, .bool false, .none] } C (some od) := ⟨ho, rfl, rfl, hd⟩
    exact PySem.W.kia_one (PySem.W.kitx_exc T.cl T.ga T.gg T.exC T.ha T.hn T.htk T.hm) I.kIn J e (fun z => nomatch z) fun tk => ⟨.bl b, H, I.tok tk, rfl, q⟩
/-! ### // by any divisor but 0 -/
def CDivX (_ j : Int) : Prop := j ≠ 0 ∧ j.natAbs.log2 < 9000
theorem op_fdivX : OpR X (binaryOp .FloorDiv) (rI CDivX fun i j => .int (i.fdiv j)) := opI fun i j _ _ _ _ _ hc q => floordiv_int hc.1 q (.inl (PyProof.noPylong_of_log2 hc.2))
end
theorem divx_ok {i j : Int} {b : Nat} (h : j ≠ 0) (hb : j.natAbs < 2 ^ b) (h0 : 0 < b) (h9 : b ≤ 9000) : CDivX i j := ⟨h, Nat.lt_of_lt_of_le (PySem.Flt.log2_lt_of h0 hb) h9⟩
/-! ### calls -/
/-- a def that may raise -/
structure CalX (P : Program) (w : World) (K : PySem.W.Frag) (mg : Str → Option Value) (base : Heap) (k : Nat) (x : Str) (sp : Sp) : Prop where
  ex : ∃ (f : Addr) (fd : FuncData) (ps : List Str), FnOk P w K mg base (L2.CX P w) k f fd ps sp ∧ mg x = some (.ref f) ∧ PySem.W.keepIn K (.ref f) = true ∧ Binds K fd ps []
section
variable {X : Cx} {k j : Nat} {x : Str} {sp : Sp} {e : Expr} {es : List Expr} {t : TA} {p pos : Pos}
/-- x(..), where x raises nothing -/
theorem pe_x (c : CalX X.prog X.w X.K X.mg X.base k x sp) (hr : Room j X.A) (hk : k ≤ j) (hg : Gl X x) (ha : PA X (e :: es) t)
    (hdb : (x == ("__debug__" : Str)) = false := by decide) (he : starEach (e :: es) X.env = (false, eval e X.env) :: starEach es X.env := by rfl) (hpl : (backTo pos (starEach es X.env)).any (·.1) = false := by rfl) :
    PE X (.Call (.Name x p) (e :: es) [] pos) (tCall sp [] L2.E0 t) := by
  obtain ⟨f, fd, ps, F, hm, kp, b⟩ := c.ex
  exact pe_call F (hr.mono hk) hg hm kp b .nil passL ha hdb he hpl
/-- x(..), where what x raises goes on as E -/
theorem pe_xE {E : XK} (hx : Passes (L2.CX X.prog X.w) X E) (c : CalX X.prog X.w X.K X.mg X.base k x sp) (hr : Room j X.A) (hk : k ≤ j) (hg : Gl X x) (ha : PA X (e :: es) t)
    (hdb : (x == ("__debug__" : Str)) = false := by decide) (he : starEach (e :: es) X.env = (false, eval e X.env) :: starEach es X.env := by rfl) (hpl : (backTo pos (starEach es X.env)).any (·.1) = false := by rfl) :
    PE X (.Call (.Name x p) (e :: es) [] pos) (tCall sp [] E t) := by
  obtain ⟨f, fd, ps, F, hm, kp, b⟩ := c.ex
  exact pe_call F (hr.mono hk) hg hm kp b .nil hx ha hdb he hpl
end
/-- two, exchanged -/
def sw {α : Type} : List α → List α
  | [x, y] => [y, x]
  | _ => []
/-- a call with keywords alone -/
structure CalK (P : Program) (w : World) (K : PySem.W.Frag) (mg : Str → Option Value) (base : Heap) (k : Nat) (x : Str) (ks : List Str) (gV : List V → List V) (sp : Sp) : Prop where
  ex : ∃ (f : Addr) (fd : FuncData) (ps : List Str) (gu : List Value → List Value) (CX : CXT), (CX = CX0 ∨ CX = L2.CX P w) ∧ FnOk P w K mg base CX k f fd ps sp ∧ mg x = some (.ref f) ∧ PySem.W.keepIn K (.ref f) = true ∧
    (∀ (s : Shared) (ws : List Value), (gu ws).length = ps.length → BindsTo s fd ⟨[], ks.zip ws⟩ (ps.zip (gu ws))) ∧ ∀ (zs : List V) (ws : List Value), Vals zs ws → Vals (gV zs) (gu ws)
def tKw (sp : Sp) (gV : List V → List V) (E : XK) (tk : TA) : TE := fun σ H Q => tk σ H fun zs H1 => sp (gV zs) H1 Q E
section
variable {X : Cx} {k j : Nat} {x : Str} {ks : List Str} {gV : List V → List V} {sp : Sp} {p pos : Pos} {kws : List Keyword} {tk : TA}
theorem pe_kwE {E : XK} (hx : Passes (L2.CX X.prog X.w) X E) (c : CalK X.prog X.w X.K X.mg X.base k x ks gV sp) (hr : Room j X.A) (hk : k ≤ j) (hg : Gl X x) (hkw : PK X kws tk)
    (hall : (backToKw pos (keywordEach kws X.env)).all (·.1.isSome) = true := by rfl) (hks : (backToKw pos (keywordEach kws X.env)).filterMap (·.1) = ks := by rfl) (hdb : (x == ("__debug__" : Str)) = false := by decide)
    (hpl : ((backTo pos (starEach [] X.env)).any (·.1) || (backToKw pos (keywordEach kws X.env)).any (·.1.isNone)) = false := by rfl) : PE X (.Call (.Name x p) [] kws pos) (tKw sp gV E tk) := by
  obtain ⟨f, fd, ps, gu, CX, hC, F, hm, kp, bt, rel⟩ := c.ex
  refine ⟨fun pins s1 σ H Q I hh => wpAny_Call_Name_kw (ld_glob I hg hm ?_ hdb)⟩
  refine PySem.W.callWith_KW0 (h₀ := X.base) I.ok.mod.kin kp hall (thn (hkw.run pos pins s1 σ H _ I hh) fun ws s2 hz => ?_) hpl
  obtain ⟨zs, H2, I2, rz, q2⟩ := hz
  refine ⟨I2.kIn, ?_⟩
  rw [hks]
  have r2 := rel zs ws rz
  have hl : (gu ws).length = ps.length := r2.length.symm.trans (F.len _ _ _ _ q2)
  refine wpAny_call (codeAny_mono ((F.mono hk).run X.A X.stack s2 H2 ⟨[], ks.zip ws⟩ (gu ws) (gV zs) Q E hr I2.env0 (bt s2 ws hl) r2 q2) fun r s3 hq => ?_)
  cases r with
  | error e =>
    rcases hC with rfl | rfl
    · exact (show False from hq).elim
    · exact hx pins σ H2 s2 e s3 I2 hq
  | ok fl =>
    cases fl with
    | ret u => exact I2.after hq
    | next => exact hq.elim
    | brk => exact hq.elim
    | cont => exact hq.elim
theorem pe_kw (c : CalK X.prog X.w X.K X.mg X.base k x ks gV sp) (hr : Room j X.A) (hk : k ≤ j) (hg : Gl X x) (hkw : PK X kws tk)
    (hall : (backToKw pos (keywordEach kws X.env)).all (·.1.isSome) = true := by rfl) (hks : (backToKw pos (keywordEach kws X.env)).filterMap (·.1) = ks := by rfl) (hdb : (x == ("__debug__" : Str)) = false := by decide)
    (hpl : ((backTo pos (starEach [] X.env)).any (·.1) || (backToKw pos (keywordEach kws X.env)).any (·.1.isNone)) = false := by rfl) : PE X (.Call (.Name x p) [] kws pos) (tKw sp gV L2.E0 tk) := pe_kwE passL c hr hk hg hkw hall hks hdb hpl
end
/-- a def of the text, its name, how it binds -/
structure Df (K : PySem.W.Frag) (mg : Str → Option Value) (x : Str) (st : Stmt) (ps : List Str) : Prop where
  ex : ∃ f fd, Fun K x x st f fd ∧ mg x = some (.ref f) ∧ Binds K fd ps []
section
variable {P : Program} {w : World} {K : PySem.W.Frag} {mg : Str → Option Value} {base : Heap}
theorem cal_of {x : Str} {st : Stmt} {ps : List Str} {k : Nat} {sp : Sp} (D : Df K mg x st ps) (h : ∀ f fd, Fun K x x st f fd → FnOk P w K mg base CX0 k f fd ps sp) : Cal P w K mg base k x sp [] := by
  obtain ⟨f, fd, F, hm, b⟩ := D.ex
  exact ⟨f, fd, ps, [], h f fd F, hm, F.kp, b, .nil⟩
theorem calx_of {x : Str} {st : Stmt} {ps : List Str} {k : Nat} {sp : Sp} (D : Df K mg x st ps) (h : ∀ f fd, Fun K x x st f fd → FnOk P w K mg base (L2.CX P w) k f fd ps sp) : CalX P w K mg base k x sp := by
  obtain ⟨f, fd, F, hm, b⟩ := D.ex
  exact ⟨f, fd, ps, h f fd F, hm, F.kp, b⟩
end
/-! ### several clauses, each with the same name -/
abbrev Suite := Addr → Value → Option Addr → TS
/-- the ends behind a clause: its name is gone -/
def offName (i : Nat) (D : Ends) : Ends := { nx := fun σ H => D.nx (σ.set i none) H, rt := D.rt, bk := fun σ H => D.bk (σ.set i none) H, ct := fun σ H => D.ct (σ.set i none) H }
def wNamed (K : PySem.W.Frag) (i : Nat) (Wout : WX) (D : Ends) : List (Value × Suite) → WX
  | [] => Wout
  | z :: r => fun cls d σ H => ∃ b, PySem.W.exmOne K cls z.1 = some b ∧ (b = true → ∀ a, H a = none → i < σ.length → z.2 a cls d (offName i D) (σ.set i (some (.ref a))) H) ∧ (b = false → wNamed K i Wout D r cls d σ H)
inductive Clauses (X : Cx) (n : Str) : List ExceptHandler → List (Value × Suite) → Prop
  | nil : Clauses X n [] []
  | cons {x : Str} {c : Value} {ts : Suite} {b : Stmt} {bs : List Stmt} {p q : Pos} {hs : List ExceptHandler} {l : List (Value × Suite)} (nm : Names X x c)
      (su : ∀ (a : Addr) (oe : Obj) (cls : Value) (d : Option Addr) (pn : List (Addr × Obj)), Zc cls d oe → (∃ vs, oe.data = .fields vs) → PSs (X.suite a ((a, oe) :: pn)) (b :: bs) (ts a cls d)) (r : Clauses X n hs l) :
      Clauses X n (.ExceptHandler (some (.Name x p)) (some n) (b :: bs) q :: hs) ((c, ts) :: l)
section
variable {X : Cx} {pins : List (Addr × Obj)} {n : Str} {i : Nat} {Wout : WX} {D : Ends} {body : List Stmt} {tb : WX → TS} {pos : Pos}
/-- what flies has met no clause yet -/
theorem clauses_go (hs : X.stack = X.env :: X.outer) (hf : X.env.frame = some X.env.locals) (hN : X.N.Nodup) (hi : X.N[i]? = some n) (hl : X.env.kindOf n = some .local) (tk : L2.Takes X Wout)
    {a : Addr} {B : Heap} {cls : Value} {d : Option Addr} {σ : L2.St} {H : Hp} {s : Shared} {sI : Shared} (ok : X.Ok) (J : Inv X pins σ H sI) (nb : ∀ b o, sI.heap.get? b = some o → b ∉ frs X.stack → B.get? b = some o) (os : s.os = sI.os) (ag : AllBare s.gens) (na : H a = none)
    {h3 : Heap} (fl3 : HandSPX.FlyingZ B (X.env :: X.outer) a (Zc cls d) h3) (up3 : sI.heap.UpToSlots h3) : ∀ {hds : List ExceptHandler} {l : List (Value × Suite)}, Clauses X n hds l → wNamed X.K i Wout D l cls d σ H →
      wpAny (model X.prog X.w) X.A (handleBy (.ref a) X.env hds) (SP X pins D) X.xe { s with heap := h3 } := by
  have hfr : X.A.frames = some (X.env :: X.outer) := by rw [ok.frames, hs]
  have J3 : Inv X pins σ H { s with heap := h3 } := J.landed nb fl3.1 up3 os ag
  obtain ⟨oe, vs, he, hz, hd⟩ := id fl3.there
  have apart : a ∉ frs (X.env :: X.outer) := fun hm => by
    obtain ⟨_, o, e, hnf⟩ := fl3.2.2.1.mem hm
    rw [he] at e
    cases e
    exact hnf _ hd
  have nL : a ≠ X.env.locals := fun z => apart (List.mem_filterMap.mpr ⟨X.env, List.mem_cons_self, by rw [hf, z]⟩)
  have nF : a ∉ X.fs := fun hm => by
    obtain ⟨e, q1, q2⟩ := List.mem_filterMap.mp hm
    exact apart (List.mem_filterMap.mpr ⟨e, List.mem_cons_of_mem _ q1, q2⟩)
  have S3 := J3.suite he hd na nL nF
  have hlt : i < σ.length := by rw [J.len]; exact (List.getElem?_eq_some_iff.mp hi).1
  have LT : PySem.W.Looks (model X.prog X.w) h3 (typeOf (.ref a)) cls := fun A Q E s k q => wpAny_typeOf_ref (k _ _ he) (by rw [hz.1]; exact q)
  intro hds l C
  induction C with
  | nil =>
    intro w
    refine wpAny_handleBy_nil ?_
    obtain ⟨_, _, _, oe', vs', T, _, _, e1, _, e2, e3, _⟩ := id fl3
    unfold PySem.passOn
    refine wpAny_bind (wpAny_field e1 e2 e3 ?_)
    rw [if_neg (show ¬ ((Value.ref T == Value.none) = true) from by simp)]
    have fin : wpAny (model X.prog X.w) X.A (setFlight (.ref a) X.env.frame) (fun _ s4 => wpAny (model X.prog X.w) X.A (throw (.ref a) : Sem Flow) (SP X pins D) X.xe s4) X.xe { s with heap := h3 } := by
      rw [hf]
      exact HandSPX.setFlight_upZ fl3 fun h4 x4 up4 => wpAny_throw (tk _ _ ⟨a, B, sI, pins, σ, H, cls, d, rfl, J, nb, up3.trans up4, .inr (.inr (by rw [hs]; exact x4)), na, os, ag, w⟩)
    first
      | exact wpAny_bind (wpAny_pure (wpAny_bind fin))
      | exact wpAny_bind fin
  | @cons x c ts b0 bs p q hds' l' nm su r ih =>
    intro w
    obtain ⟨b, hb, yes, no⟩ := w
    refine wpAny_handleBy_cons (codeAny_handlers_test ?_) (by intro z; cases z)
    have LM := PySem.W.exm_one (M := model X.prog X.w) J3.kIn LT hb
    have test : ∀ {Q : Value → Shared → Prop} {E : Value → Shared → Prop}, Q c { s with heap := h3 } → wpAny (model X.prog X.w) (X.A.mark (some (.ref a))) (eval (.Name x p) X.env) Q E { s with heap := h3 } := fun {Q E} z => by
      obtain ⟨hg, hg2, hm | ⟨hm, hv, hnn⟩⟩ := nm
      · exact ld_glob (X := X.suite a ((a, oe) :: (X.pn ++ pins))) S3 hg hm z hg2
      · exact ld_blt (X := X.suite a ((a, oe) :: (X.pn ++ pins))) S3 hg hm hv z hnn hg2
    refine test (LM.here ?_)
    cases b with
    | false => exact ih (no rfl)
    | true =>
      refine codeAny_handlers_suite_as (HandSPX.lands_againZ fl3 fun h4 fl4 up4 => ?_)
      have J4 : Inv X pins σ H { s with heap := h4 } := J.landed nb fl4.1 (up3.trans up4) os ag
      obtain ⟨oe4, vs4, he4, hz4, hd4⟩ := fl4.there
      refine store_ok (X := X.suite a ((a, oe4) :: (X.pn ++ pins))) (v := .ref a) (J4.suite he4 hd4 na nL nF) hN hi (.inl hl) rfl (fun s5 S5 => ?_) (.inr hl)
      refine wpAny_mono ((su a oe4 cls d (X.pn ++ pins) hz4 ⟨_, hd4⟩).run [] s5 _ H _ S5 (yes rfl a na hlt)) (fun fl s6 z => ?_) (fun _ _ z => False.elim z)
      have off : ∀ {σ6 : L2.St} {H6 : Hp} {Q : Shared → Prop}, Inv (X.suite a ((a, oe4) :: (X.pn ++ pins))) [] σ6 H6 s6 → (∀ s7, Inv X pins (σ6.set i none) H6 s7 → Q s7) →
          wpAny (model X.prog X.w) X.A (do bindName X.env n .none; unbindBehindTheSuite X.env n q) (fun _ s7 => Q s7) X.xe s6 := fun {σ6 H6 Q} S6 k => gone_ok (S6.unsuite ok) hN hi hl k
      cases fl with
      | next =>
        obtain ⟨σ6, H6, S6, k⟩ := z
        exact off S6 fun s7 J7 => ⟨_, _, J7, k⟩
      | brk =>
        obtain ⟨σ6, H6, S6, k⟩ := z
        exact off S6 fun s7 J7 => ⟨_, _, J7, k⟩
      | cont =>
        obtain ⟨σ6, H6, S6, k⟩ := z
        exact off S6 fun s7 J7 => ⟨_, _, J7, k⟩
      | ret u =>
        obtain ⟨v6, σ6, H6, S6, r6, k⟩ := z
        exact off S6 fun s7 J7 => ⟨_, _, _, J7, r6, k⟩
theorem ps_try_named {h0 : ExceptHandler} {hds : List ExceptHandler} {l : List (Value × Suite)} (hs : X.stack = X.env :: X.outer) (hf : X.env.frame = some X.env.locals) (hN : X.N.Nodup) (hi : X.N[i]? = some n) (hl : X.env.kindOf n = some .local) (tk : L2.Takes X Wout)
    (hb : ∀ (W : WX) (pn : List (Addr × Obj)) (xe : Value → Shared → Prop), L2.Takes (X.tr pn xe) W → PassesOwn (model X.prog X.w) X.A X.env xe → PSs (X.tr pn xe) body (tb W))
    (C : Clauses X n (h0 :: hds) l) : PS X (.Try body (h0 :: hds) [] [] pos) (fun D σ H => tb (wNamed X.K i Wout D l) D σ H) := by
  refine ⟨fun pins s σ H D I h => ?_⟩
  have ok := I.ok
  have hfr : X.A.frames = some (X.env :: X.outer) := by rw [ok.frames, hs]
  refine wpAny_Try_except (wpAny_mono ((hb (wNamed X.K i Wout D l) (X.pn ++ pins) (fun e s₁ => wpAny (model X.prog X.w) X.A (noteFrame e X.env) (fun _ s₂ => wpAny (model X.prog X.w) X.A (setFlight e none) (fun _ s₃ =>
    wpAny (model X.prog X.w) X.A (handleBy e X.env (h0 :: hds)) (SP X pins D) X.xe s₃) X.xe s₂) X.xe s₁) (fun u s' xx => ?_) PassesOwn.looking).run [] s σ H D (I.toTry _) h) (fun f s1 z => ?_) (fun e s1 z => z))
  · obtain ⟨a, B, sI, pins', σ', H', cls, d, rfl, J', nb, up, sky, na, os, ag, w⟩ := xx
    refine Sky.land Zc.steady hfr hf (by rw [← hs]; exact sky) fun h3 fl3 up3 => ?_
    exact clauses_go hs hf hN hi hl tk ok (J'.ofTry ok) nb os ag na fl3 (up.trans up3) C w
  · cases f with
    | next =>
      obtain ⟨σ', H', J', q⟩ := z
      exact wpAny_execs_nil ⟨σ', H', J'.ofTry ok, q⟩
    | brk =>
      obtain ⟨σ', H', J', q⟩ := z
      exact ⟨σ', H', J'.ofTry ok, q⟩
    | cont =>
      obtain ⟨σ', H', J', q⟩ := z
      exact ⟨σ', H', J'.ofTry ok, q⟩
    | ret u =>
      obtain ⟨v, σ', H', J', r, q⟩ := z
      exact ⟨v, σ', H', J'.ofTry ok, r, q⟩
end
/-! ### the source of draws -/
def BoxAt (H : Hp) (b : Addr) : Prop := ∃ g m n : Int, H b = some (.lst [.int g, .int m, .int n])
theorem BoxAt.same {H H' : Hp} {b : Addr} (h : BoxAt H b) (s : Same H H') : BoxAt H' b := by
  obtain ⟨g, m, n, e⟩ := h
  exact ⟨g, m, n, s _ _ e⟩
/-- all but the source stays -/
def Keep (b : Addr) (H H' : Hp) : Prop := ∀ a o, H a = some o → a ≠ b → H' a = some o
theorem Keep.refl (b : Addr) (H : Hp) : Keep b H H := fun _ _ e _ => e
theorem Keep.trans {b : Addr} {H H1 H2 : Hp} (x : Keep b H H1) (y : Keep b H1 H2) : Keep b H H2 := fun a o e n => y a o (x a o e n) n
theorem Keep.of {b : Addr} {H H' : Hp} (s : Same H H') : Keep b H H' := fun a o e _ => s a o e
theorem Keep.at_ {b : Addr} {H : Hp} {o : HO} : Keep b H (upd H b o) := fun a x e n => by rw [upd_ne n]; exact e
theorem BoxAt.ne_of {H : Hp} {b p : Addr} (h : BoxAt H b) (n : H p = none) : p ≠ b := by
  obtain ⟨g, m, k, e⟩ := h
  exact (ne_of_none e n).symm
theorem BoxAt.ne_tup {H : Hp} {b p : Addr} {xs : List V} (h : BoxAt H b) (n : H p = some (.tup xs)) : p ≠ b := by
  obtain ⟨g, m, k, e⟩ := h
  exact Own.ne_of n e (by intro z; cases z)
theorem Keep.seq {K : PySem.W.Frag} {b a : Addr} {H H' : Hp} {xs : List V} (k : Keep b H H') (ne : a ≠ b) (h : SqL K H a xs) : SqL K H' a xs := by
  rcases h with (h | ⟨o, h⟩) | h
  · exact .inl (.inl (k _ _ h ne))
  · exact .inl (.inr ⟨o, k _ _ h ne⟩)
  · exact .inr h
/-- a def whose code object stands at c -/
structure FunC (K : PySem.W.Frag) (x qual : Str) (st : Stmt) (f : Addr) (fd : FuncData) (c : Addr) : Prop where
  ex : ∃ (oc : Value) (od : Option Addr) (kV doc pm : Value) (an : Option Addr) (ct : Value) (osl : Array (Option Value)),
    fd = PySem.W.fnOf x qual (defArgs st) (defBody st) (defScope st) .none kV doc pm an (.ref c) ct ∧ K.lookup f = some ⟨oc, od, .func fd, osl⟩ ∧ PySem.W.codeIn K (.ref c) qual = true
section
variable {P : Program} {w : World} {K : PySem.W.Frag} {mg : Str → Option Value} {base : Heap}
theorem FunC.ok {x qual : Str} {st : Stmt} {f c : Addr} {fd : FuncData} {N ps : List Str} {k : Nat} {sp : Sp} (F : FunC K x qual st f fd c) (S : FnScope N ps (defScope st)) (len : ∀ vs H Q E, sp vs H Q E → vs.length = ps.length)
    (hbody : ∀ (A : Around) (outer : List Env) (s : Shared) (H : Hp) (vs : List V) (Q : VK) (E : XK), Room k (A.deeper (envOfC qual (defScope st) s.heap.objs.size f (.ref c))) → sp vs H Q E →
      ∃ t, PSs (cxOf CX0 P w K mg base N qual (defScope st) f (.ref c) A outer s H E).nox (defBody st) t ∧ t { nx := fun _ H' => Q .non H', rt := Q } (L2.start N vs) H) : FnOk P w K mg base CX0 (k + 1) f fd ps sp := by
  obtain ⟨oc, od, kV, doc, pm, an, ct, osl, rfl, lk, hcd⟩ := F.ex
  refine fn_of lk hcd S len fun A outer s H vs Q E hr hsp => ?_
  obtain ⟨t, h, q⟩ := hbody A outer s H vs Q E hr hsp
  exact ⟨t, h.nox, q⟩
end
/-! ### the tables stay tables -/
def KeepN (b : Addr) (H H' : Hp) : Prop := ∀ a o, H a = some o → a ≠ b → (∀ ps, o ≠ .tbl ps) → H' a = some o
theorem KeepN.of_keep {b : Addr} {H H' : Hp} (k : Keep b H H') : KeepN b H H' := fun a o e n _ => k a o e n
theorem KeepN.of_ext {b : Addr} {H H' : Hp} (k : LamX.ExtN H H') : KeepN b H H' := fun a o e _ n => k a o e n
theorem KeepN.trans {b : Addr} {H H1 H2 : Hp} (x : KeepN b H H1) (y : KeepN b H1 H2) : KeepN b H H2 := fun a o e n m => y a o (x a o e n m) n m
theorem ext_of {H H' : Hp} (s : Same H H') : LamX.ExtN H H' := LamX.ExtN.of s
theorem ext_at {H0 H : Hp} {D : Addr} {o : HO} (s : LamX.ExtN H0 H) (n : H D = none) : LamX.ExtN H0 (upd H D o) := s.trans (ext_of (same_upd n))
theorem codeO_lst {c : Addr} {q : Str} {xs : List V} : LamX.CodeO c q ≠ .lst xs := fun z => by
  unfold LamX.CodeO at z
  cases z
theorem BoxAt.ext {H H' : Hp} {b : Addr} (h : BoxAt H b) (s : LamX.ExtN H H') : BoxAt H' b := by
  obtain ⟨g, m, n, e⟩ := h
  exact ⟨g, m, n, s _ _ e (fun ps z => by cases z)⟩
theorem tabs_keep {T : List (Addr × Str)} {b : Addr} {H H' : Hp} (t : LamX.Tabs T H) (x : BoxAt H b) (k : Keep b H H') : LamX.Tabs T H' := fun p hp => by
  obtain ⟨ps, h1, h2, h3⟩ := t p hp
  obtain ⟨g, m, n, e⟩ := x
  refine ⟨ps, k _ _ h1 (Own.ne_of h1 e (by intro z; cases z)), h2, fun pos cv hc => ?_⟩
  obtain ⟨c, e1, e2⟩ := h3 pos cv hc
  exact ⟨c, e1, k _ _ e2 (Own.ne_of e2 e codeO_lst)⟩
/-- new, as far as it is no table -/
def FreeN (H : Hp) (l : Addr) : Prop := ∀ o, H l = some o → ∃ ps, o = .tbl ps
theorem freeN_of {H H' : Hp} {l : Addr} (x : LamX.ExtN H H') (n : H' l = none) : FreeN H l := fun o e => by
  refine Classical.byContradiction fun h => ?_
  rw [x _ _ e (fun ps z => h ⟨ps, z⟩)] at n
  cases n
theorem ext_put {H H' : Hp} {l : Addr} {o : HO} (x : LamX.ExtN H H') (n : FreeN H l) : LamX.ExtN H (upd H' l o) := fun b u e h => by
  by_cases hb : b = l
  · subst hb
    obtain ⟨ps, z⟩ := n u e
    exact absurd z (h ps)
  · rw [upd_ne hb]; exact x _ _ e h
theorem tabs_put {T : List (Addr × Str)} {l : Addr} {H : Hp} {xs : List V} {o : HO} (t : LamX.Tabs T H) (e : H l = some (.lst xs)) : LamX.Tabs T (upd H l o) := fun p hp => by
  obtain ⟨ps, h1, h2, h3⟩ := t p hp
  refine ⟨ps, by rw [upd_ne (Own.ne_of h1 e (by intro z; cases z))]; exact h1, h2, fun pos cv hc => ?_⟩
  obtain ⟨c, e1, e2⟩ := h3 pos cv hc
  exact ⟨c, e1, by rw [upd_ne (Own.ne_of e2 e codeO_lst)]; exact e2⟩
theorem len1 {a : V} : [a].length ≤ sizeLine := by
  rw [sizeLine_eq]
  exact (by decide : 1 ≤ 16777216)
theorem len2 {a b : V} : [a, b].length ≤ sizeLine := by
  rw [sizeLine_eq]
  exact (by decide : 2 ≤ 16777216)
theorem len3 {a b c : V} : [a, b, c].length ≤ sizeLine := by
  rw [sizeLine_eq]
  exact (by decide : 3 ≤ 16777216)
theorem len4 {a b c d : V} : [a, b, c, d].length ≤ sizeLine := by
  rw [sizeLine_eq]
  exact (by decide : 4 ≤ 16777216)
theorem len5 {a b c d e : V} : [a, b, c, d, e].length ≤ sizeLine := by
  rw [sizeLine_eq]
  exact (by decide : 5 ≤ 16777216)
theorem len6 {a b c d e f : V} : [a, b, c, d, e, f].length ≤ sizeLine := by
  rw [sizeLine_eq]
  exact (by decide : 6 ≤ 16777216)
theorem nil_ok : ([] : List V).length ≤ sizeLine := Nat.zero_le _
theorem TyOf.same {K : PySem.W.Frag} {H H' : Hp} {x : V} {t : Value} (h : TyOf K H x t) (s : Same H H') : TyOf K H' x t := by
  cases h with
  | non => exact .non
  | bl b => exact .bl b
  | int i => exact .int i
  | str y => exact .str y
  | flt y => exact .flt y
  | lst e => exact .lst (s _ _ e)
  | frz e => exact .frz (s _ _ e)
  | tup e => exact .tup (s _ _ e)
  | dK e => exact .dK (s _ _ e)
  | dT e => exact .dT (s _ _ e)
  | ins e cl ha hn htk hm => exact .ins (s _ _ e) cl ha hn htk hm
theorem TyX.same {K : PySem.W.Frag} {H H' : Hp} {x : V} {t : Value} (h : TyX K H x t) (s : Same H H') : TyX K H' x t := by
  cases h with
  | base h => exact .base (TyOf.same h s)
  | byt b => exact .byt b
  | set e => exact .set (s _ _ e)
  | kList e c => exact .kList e c
  | kTuple e c => exact .kTuple e c
  | kDict e c => exact .kDict e c
  | fTuple e => exact .fTuple (s _ _ e)
  | fDict e => exact .fDict (s _ _ e)
theorem TyE.same {K : PySem.W.Frag} {H H' : Hp} {x : V} {t : Value} (h : TyE K H x t) (s : Same H H') : TyE K H' x t := by
  cases h with
  | base h => exact .base (TyX.same h s)
  | exc T e f => exact .exc T (s _ _ e) (s _ _ f)
theorem exo_lst {e C : Addr} {d : Option Addr} {xs : List V} : exo e C d ≠ .lst xs := fun z => by
  have z' : HO.ext _ = HO.lst xs := z
  cases z'
theorem exd_lst {e : Addr} {fs : List (Str × V)} {xs : List V} : exd e fs ≠ .lst xs := fun z => by
  have z' : HO.ext _ = HO.lst xs := z
  cases z'
theorem Keep.at_ne {b a : Addr} {H H' : Hp} {o : HO} (k : Keep b H H') (x : BoxAt H b) (e : H a = some o) (n : ∀ xs, o ≠ .lst xs) : H' a = some o := by
  obtain ⟨g, m, y, eb⟩ := x
  exact k _ _ e (Own.ne_of e eb (n _))
theorem TyOf.keep {K : PySem.W.Frag} {b : Addr} {H H' : Hp} {x : V} {t : Value} (h : TyOf K H x t) (hb : BoxAt H b) (hb' : BoxAt H' b) (s : Keep b H H') : TyOf K H' x t := by
  cases h with
  | non => exact .non
  | bl b => exact .bl b
  | int i => exact .int i
  | str y => exact .str y
  | flt y => exact .flt y
  | @lst a xs e =>
    by_cases c : a = b
    · subst c
      obtain ⟨g, m, n, e2⟩ := hb'
      exact .lst e2
    · exact .lst (s _ _ e c)
  | frz e => exact .frz (s.at_ne hb e (fun _ z => by cases z))
  | tup e => exact .tup (s.at_ne hb e (fun _ z => by cases z))
  | dK e => exact .dK (s.at_ne hb e (fun _ z => by cases z))
  | dT e => exact .dT (s.at_ne hb e (fun _ z => by cases z))
  | ins e cl ha hn htk hm => exact .ins (s.at_ne hb e (fun _ z => by cases z)) cl ha hn htk hm
theorem TyX.keep {K : PySem.W.Frag} {b : Addr} {H H' : Hp} {x : V} {t : Value} (h : TyX K H x t) (hb : BoxAt H b) (hb' : BoxAt H' b) (s : Keep b H H') : TyX K H' x t := by
  cases h with
  | base h => exact .base (TyOf.keep h hb hb' s)
  | byt b => exact .byt b
  | set e => exact .set (s.at_ne hb e (fun _ z => by cases z))
  | kList e c => exact .kList e c
  | kTuple e c => exact .kTuple e c
  | kDict e c => exact .kDict e c
  | fTuple e => exact .fTuple (s.at_ne hb e (fun _ z => by cases z))
  | fDict e => exact .fDict (s.at_ne hb e (fun _ z => by cases z))
theorem TyE.keep {K : PySem.W.Frag} {b : Addr} {H H' : Hp} {x : V} {t : Value} (h : TyE K H x t) (hb : BoxAt H b) (hb' : BoxAt H' b) (s : Keep b H H') : TyE K H' x t := by
  cases h with
  | base h => exact .base (TyX.keep h hb hb' s)
  | exc T e f => exact .exc T (s.at_ne hb e (fun _ => exo_lst)) (s.at_ne hb f (fun _ => exd_lst))
theorem seq_ext {K : PySem.W.Frag} {a : Addr} {H H' : Hp} {xs : List V} (x : LamX.ExtN H H') (h : SqL K H a xs) : SqL K H' a xs := by
  rcases h with (h | ⟨o, h⟩) | h
  · exact .inl (.inl (x _ _ h (fun ps z => by cases z)))
  · exact .inl (.inr ⟨o, x _ _ h (fun ps z => by cases z)⟩)
  · exact .inr h
theorem ext_keepN {b : Addr} {H H' : Hp} (k : KeepN b H H') (n : H b = none) : LamX.ExtN H H' := fun a o e m => k a o e (ne_of_none e n) m
theorem u65 {k : Nat} {A : Around} (hr : Room k A) : A.units + 65 < cLine := by have := hr.un; omega
open PySem.W (Frag findIn subIn typeIn keepIn)
open PySem.Calls
theorem sw2 {α : Type} {ws : List α} (h : (sw ws).length = 2) : ∃ a b, ws = [a, b] := by
  match ws, h with
  | [], h => cases h
  | [_], h => cases h
  | [a, b], _ => exact ⟨a, b, rfl⟩
  | _ :: _ :: _ :: _, h => cases h
theorem vals_sw : ∀ {zs : List V} {ws : List Value}, Vals zs ws → Vals (sw zs) (sw ws)
  | _, _, .nil => .nil
  | _, _, .cons _ .nil => .nil
  | _, _, .cons a (.cons b .nil) => .cons b (.cons a .nil)
  | _, _, .cons _ (.cons _ (.cons _ _)) => .nil
section
variable {P : Program} {w : World} {K : Frag} {mg : Str → Option Value} {base : Heap} {x p1 p2 : Str} {st : Stmt} {f : Addr} {fd : FuncData} {k : Nat} {sp : Sp} {CX : CXT}
theorem mkK2 (F : Fun K x x st f fd) (ok : FnOk P w K mg base CX k f fd [p1, p2] sp) (hC : CX = CX0 ∨ CX = L2.CX P w) (g : mg x = some (.ref f))
    (h : ∀ (kV doc pm : Value) (an : Option Addr) (cdv ct : Value) (a b : Value), bindArgs (PySem.W.fnOf x x (defArgs st) (defBody st) (defScope st) .none kV doc pm an cdv ct) ⟨[], [p2, p1].zip [a, b]⟩ = pure ([p1, p2].zip [b, a])) : CalK P w K mg base k x [p2, p1] sw sp := by
  have kp := F.kp
  obtain ⟨oc, od, kV, doc, pm, an, cdv, ct, osl, rfl, lk, hc⟩ := F.ex
  refine ⟨⟨f, _, [p1, p2], sw, CX, hC, ok, g, kp, fun s ws hl => ?_, fun _ _ r => vals_sw r⟩⟩
  obtain ⟨a, b, rfl⟩ := sw2 hl
  exact .of_eq (h kV doc pm an cdv ct a b)
theorem mkK1 (F : Fun K x x st f fd) (ok : FnOk P w K mg base CX k f fd [p1] sp) (hC : CX = CX0 ∨ CX = L2.CX P w) (g : mg x = some (.ref f))
    (h : ∀ (kV doc pm : Value) (an : Option Addr) (cdv ct : Value) (a : Value), bindArgs (PySem.W.fnOf x x (defArgs st) (defBody st) (defScope st) .none kV doc pm an cdv ct) ⟨[], [p1].zip [a]⟩ = pure ([p1].zip [a])) : CalK P w K mg base k x [p1] id sp := by
  have kp := F.kp
  obtain ⟨oc, od, kV, doc, pm, an, cdv, ct, osl, rfl, lk, hc⟩ := F.ex
  refine ⟨⟨f, _, [p1], id, CX, hC, ok, g, kp, fun s ws hl => ?_, fun _ _ r => r⟩⟩
  match ws, hl with
  | [a], _ => exact .of_eq (h kV doc pm an cdv ct a)
end
/-- an own error's class -/
def oexB (K : Frag) (C : Addr) : Bool := (match K.lookup C with
  | some ⟨.type t, _, .cls cd, sl⟩ => decide (t = "type") && (match cd.mro, sl.toList with
    | .ref C' :: bm, [_, _, _, _, some (.builtin n), _] => decide (C' = C) && (decide (n = "ValueError.__new__") && (!cd.hasDel && (cd.hasDict && HandSPX.refsVE bm)))
    | _, _ => false)
  | _ => false) && (He.eqO (findIn K (.ref C) "__setattr__") (some (some (.builtin "object.__setattr__"))) && (decide (subIn K (.ref C) (.type "BaseException") = some true) && (decide (typeIn K (.ref C) = some (.type "type")) && keepIn K (.ref C))))
theorem oexB_ok {K : Frag} {C : Addr} (h : oexB K C = true) : OexC K C := by
  obtain ⟨h1, h⟩ := He.ba h
  obtain ⟨h2, h⟩ := He.ba h
  obtain ⟨h3, h⟩ := He.ba h
  obtain ⟨h4, h5⟩ := He.ba h
  refine ⟨?_, He.eqO_ok h2, of_decide_eq_true h3, of_decide_eq_true h4, h5⟩
  clear h2 h3 h4 h5 h
  cases q : K.lookup C with
  | none => rw [q] at h1; cases h1
  | some o =>
    obtain ⟨oc, dd, dt, sl⟩ := o
    rw [q] at h1
    cases oc with
    | type t =>
      cases dt with
      | cls cd =>
        obtain ⟨nm, bases, mro, ns, qn, hd, sn, sb, ab, col, del⟩ := cd
        obtain ⟨a1, a2⟩ := He.ba h1
        obtain rfl := of_decide_eq_true a1
        clear h1 a1
        cases mro with
        | nil => cases a2
        | cons m bm =>
          cases m with
          | ref C' =>
            obtain ⟨sll⟩ := sl
            match sll, a2 with
            | [k0, k1, k2, k3, some (.builtin n), k5], a2 =>
              obtain ⟨b1, b⟩ := He.ba a2
              obtain ⟨b2, b⟩ := He.ba b
              obtain ⟨b3, b⟩ := He.ba b
              obtain ⟨b4, b5⟩ := He.ba b
              obtain rfl := of_decide_eq_true b1
              obtain rfl := of_decide_eq_true b2
              have e3 : del = false := by simpa using b3
              have e4 : hd = true := b4
              subst e3 e4
              exact ⟨nm, qn, ns, bases, bm, sn, sb, ab, col, dd, k0, k1, k2, k3, k5, rfl, b5⟩
          | _ => cases a2
      | _ => cases h1
    | _ => cases dt <;> cases h1
def clsB (K : Frag) (x : Str) : Bool := oexB K (He.ga K x) && (He.eqO (findIn K (.ref (He.ga K x)) "__init__") (some (some (.ref (He.ma K (He.ga K x) "__init__")))) && (decide (typeIn K (.ref (He.ma K (He.ga K x) "__init__")) = some (.type "function")) && (xfB K (He.ga K x) && He.eqO (findIn K (.ref (He.ga K x)) "word") (some none))))
theorem clsB_ok {K : Frag} {mg : Str → Option Value} {x : Str} (h : clsB K x = true) (g : mg x = some (.ref (He.ga K x))) : ExT K mg x (He.ga K x) (He.ma K (He.ga K x) "__init__") := by
  obtain ⟨h1, h⟩ := He.ba h
  obtain ⟨h2, h⟩ := He.ba h
  obtain ⟨h3, h⟩ := He.ba h
  obtain ⟨h4, h5⟩ := He.ba h
  exact ⟨oexB_ok h1, He.eqO_ok h2, of_decide_eq_true h3, g, xfB_ok h4, He.eqO_ok h5⟩
section
variable {K : Frag}
theorem funOf {x : Str} {st : Stmt} {f : Addr} {fd : FuncData} {qual : Str} (F : FunD K x qual (defArgs st) (defBody st) (defScope st) [] [] f fd) : Fun K x qual st f fd := by
  obtain ⟨oc, od, dV, kV, doc, pm, an, cdv, ct, osl, e, lk, hc, hd, hk⟩ := F.ex
  rcases hd with ⟨_, h⟩ | ⟨h, _⟩
  · subst h
    exact ⟨⟨oc, od, kV, doc, pm, an, cdv, ct, osl, e, lk, hc⟩, F.kp⟩
  · exact absurd rfl h
theorem funCOf {x : Str} {st : Stmt} {p : He.Defn} {fd : FuncData} {qual : Str} (F : Fun K x qual st (He.fAd K p) fd) : FunC K x qual st (He.fAd K p) fd (He.cT K p).1 := by
  obtain ⟨oc, od, kV, doc, pm, an, cdv, ct, osl, e, lk, hc⟩ := F.ex
  obtain ⟨c, rfl⟩ := He.codeIn_ref hc
  have e2 : He.codeOf K p = c := He.codeOf_eq lk (by rw [e])
  have e3 : (He.cT K p).1 = c := e2
  rw [e3]
  exact ⟨⟨oc, od, kV, doc, pm, an, ct, osl, e, lk, hc⟩⟩
end
end Own

/-! Defs that show data by repr: what is under way in C must be known where they are called (A.guards = some []), which the layer's promises leave open. A promise under that premise, its call, repr of data, the law's end. -/
namespace Gd
open PySem PySem.Spec PyProof.Rows L2
theorem deeper_guards {A : Around} {env : Env} (h : A.guards = some []) : (A.deeper env).guards = some [] := h
/-- a def that keeps sp where nothing is under way -/
structure FnG (P : Program) (w : World) (K : PySem.W.Frag) (mg : Str → Option Value) (base : Heap) (CX : CXT) (k : Nat) (f : Addr) (fd : FuncData) (ps : List Str) (sp : Sp) : Prop where
  len : ∀ vs H Q E, sp vs H Q E → vs.length = ps.length
  run : ∀ (A : Around) (outer : List Env) (s : Shared) (H : Hp) (args : Args) (us : List Value) (vs : List V) (Q : VK) (E : XK), A.guards = some [] → Room k A → Env0 P w K mg base A outer s H → BindsTo s fd args (ps.zip us) → Vals vs us → sp vs H Q E →
    codeAny (model P w) A (.call (.ref f) args) (CR CX outer P w H s Q E) s
section
variable {P : Program} {w : World} {K : PySem.W.Frag} {mg : Str → Option Value} {base : Heap}
theorem FnG.mono {CX : CXT} {j k : Nat} {f : Addr} {fd : FuncData} {ps : List Str} {sp : Sp} (F : FnG P w K mg base CX j f fd ps sp) (h : j ≤ k) : FnG P w K mg base CX k f fd ps sp :=
  ⟨F.len, fun A outer s H args us vs Q E g hr => F.run A outer s H args us vs Q E g (hr.mono h)⟩
/-- a def by its body, the guards known within -/
theorem fun_okG {x qual : Str} {st : Stmt} {f : Addr} {fd : FuncData} {N ps : List Str} {k : Nat} {sp : Sp} (F : Fun K x qual st f fd) (S : FnScope N ps (defScope st)) (len : ∀ vs H Q E, sp vs H Q E → vs.length = ps.length)
    (hbody : ∀ (cdv : Value) (A : Around) (outer : List Env) (s : Shared) (H : Hp) (vs : List V) (Q : VK) (E : XK), (A.deeper (envOfC qual (defScope st) s.heap.objs.size f cdv)).guards = some [] → Room k (A.deeper (envOfC qual (defScope st) s.heap.objs.size f cdv)) → sp vs H Q E →
      ∃ t, PSs (cxOf CX0 P w K mg base N qual (defScope st) f cdv A outer s H E).nox (defBody st) t ∧ t { nx := fun _ H' => Q .non H', rt := Q } (L2.start N vs) H) : FnG P w K mg base CX0 (k + 1) f fd ps sp := by
  obtain ⟨oc, od, kV, doc, pm, an, cdv, ct, osl, rfl, lk, hcd⟩ := F.ex
  refine ⟨len, fun A outer s H args us vs Q E g hr e0 hb r hsp => ?_⟩
  refine LamX.run_ofS lk hcd S hr e0 hb r (len _ _ _ _ hsp) fun hr' => ?_
  obtain ⟨t, h, q⟩ := hbody cdv A outer s H vs Q E (deeper_guards g) hr' hsp
  exact ⟨t, h.nox, q⟩
/-- such a def by its name -/
structure CalG (P : Program) (w : World) (K : PySem.W.Frag) (mg : Str → Option Value) (base : Heap) (k : Nat) (x : Str) (sp : Sp) : Prop where
  ex : ∃ (f : Addr) (fd : FuncData) (ps : List Str), FnG P w K mg base CX0 k f fd ps sp ∧ mg x = some (.ref f) ∧ PySem.W.keepIn K (.ref f) = true ∧ Binds K fd ps []
end
section
variable {X : Cx} {k j : Nat} {x : Str} {sp : Sp} {e : Expr} {es : List Expr} {t : TA} {p pos : Pos}
theorem pe_cG (hgd : X.A.guards = some []) (c : CalG X.prog X.w X.K X.mg X.base k x sp) (hr : Room j X.A) (hk : k ≤ j) (hg : Gl X x) (ha : PA X (e :: es) t)
    (hdb : (x == ("__debug__" : Str)) = false := by decide) (he : starEach (e :: es) X.env = (false, eval e X.env) :: starEach es X.env := by rfl) (hpl : (backTo pos (starEach es X.env)).any (·.1) = false := by rfl) :
    PE X (.Call (.Name x p) (e :: es) [] pos) (tCall sp [] L2.E0 t) := by
  obtain ⟨f, fd, ps, F, hm, kp, b⟩ := c.ex
  refine ⟨fun pins s σ H Q I h => ?_⟩
  refine wpAny_Call_Name_kw (ld_glob I hg hm ?_ hdb)
  refine PySem.W.callWith_K (h₀ := X.base) I.ok.mod.kin kp (thn (ha.run pos pins s σ H _ I h) fun us s1 hz => ?_) he hpl
  obtain ⟨vs, H1, I1, r, q⟩ := hz
  have q : sp (vs ++ []) H1 Q L2.E0 := q
  rw [List.append_nil] at q
  have hl : us.length = ps.length := r.length.symm.trans (F.len _ _ _ _ q)
  refine ⟨I1.kIn, wpAny_call (codeAny_mono ((F.mono hk).run X.A X.stack s1 H1 ⟨us, []⟩ us vs Q L2.E0 hgd hr I1.env0 ?_ r q) fun r3 s3 hq => ?_)⟩
  · have := b s1 us I1.kIn (by rw [List.append_nil]; exact hl)
    rw [List.append_nil] at this
    exact this
  · cases r3 with
    | error e => exact (show False from hq).elim
    | ok fl =>
      cases fl with
      | ret u => exact I1.after hq
      | next => exact hq.elim
      | brk => exact hq.elim
      | cont => exact hq.elim
/-- repr of a tuple, a list of data -/
def rShow (K : PySem.W.Frag) : List V → Hp → VK → Prop := fun xs H Q => ∃ (a : Addr) (d : PyData), xs = [.ref a] ∧ Dp K H (.ref a) d ∧ d.showable = true ∧ d.hasDict = false ∧ d.depth ≤ 60 ∧ d.shown.length ≤ sizeLine ∧ Q (.str d.shown) H
theorem call_show (hgd : X.A.guards = some []) (hu : X.A.units + 64 < cLine) : CallR X (.builtin "repr") (rShow X.K) := by
  intro pins s σ H xs us Q I r h
  obtain ⟨a, d, rfl, hd, hs, hn, hp, hz, q⟩ := h
  obtain ⟨u, rfl, r1⟩ := vals1 r
  cases (show u = Value.ref a from r1)
  obtain ⟨as, rd⟩ := Dp.reads I d (.ref a) (.ref a) hd rfl
  refine repr_of_reads' rd hs (fun e => by rw [hn] at e; cases e) hgd (by omega) (fun _ _ e => e) (fun h' u tk hk => ?_) hz
  exact ⟨.str d.shown, H, I.kept (t' := tk) hk, ⟨u, rfl⟩, q⟩
end
end Gd

/-! enumerate of a tuple, a loop over a list or a tuple, math.lcm. -/
namespace Gd
open PySem PySem.Spec PyProof.Rows L2
/-- the new enumerate object over what v begins as -/
abbrev enO (h : Heap) : Obj := { cls := .type "enumerate", data := .fields #[.none, .bool false, .ref h.objs.size, rawInt 0, .none, .none] }
theorem enB_new {v : Value} {o : Obj} {H : Heap → Prop} (B : Begins v o H) :
    Meets (Builtin.«enumerate.__new__» ⟨[.type "enumerate", v], []⟩) (fun _ R s => H s.heap ∧ R (.ok (.ret (.ref (s.heap.push o).objs.size))) { s with heap := (s.heap.push o).push (enO s.heap) }) :=
  .of_wp fun P W A R s z => by
    obtain ⟨hp, g, d, tk, os⟩ := s
    obtain ⟨hB, q⟩ := z
    have sb := sub_enumerate
    have begin : ∀ {A2 : Around} {E : Value → Shared → Prop} {Q : Value → Shared → Prop}, Q (.ref hp.objs.size) ⟨hp.push o, g, d, tk, os⟩ → wpAny (model P W) A2 (pyIter v) Q E ⟨hp, g, d, tk, os⟩ :=
      fun y => B.iter P W _ _ ⟨hp, g, d, tk, os⟩ _ hB y
    wp_walk using begin
    refine wpAny_stack_any fun stk => wpAny_pure ?_
    split
    all_goals first
      | (wp_walk using begin; exact ⟨_, rfl, q⟩)
      | (rename_i c _ _ _ _ _
         cases (c == Value.type "enumerate") <;> (wp_walk using begin; exact ⟨_, rfl, q⟩))
theorem call_enB {P : Program} {w : World} {A : Around} {E : Value → Shared → Prop} {s : Shared} {v : Value} {o : Obj} {H : Heap → Prop} {Q : Value → Shared → Prop} (B : Begins v o H) (hB : H s.heap)
    (q : ∀ h', IsEnum h' (s.heap.objs.size + 1) s.heap.objs.size 0 .none → h'.get? s.heap.objs.size = some o → (∀ b x, s.heap.get? b = some x → h'.get? b = some x) → Q (.ref (s.heap.objs.size + 1)) { s with heap := h' }) :
    wpAny (model P w) A (call (.type "enumerate") [v]) Q E s := by
  refine callType_new F.called_enumerate (by decide) (F.typeCall_enumerate_1 _) (F.newCall_enumerate_1 _) (fun obj => F.args_object_init_2 obj _) F.entry_enumerate_new (enB_new B) ⟨hB, ?_⟩
  have sz : (s.heap.push o).objs.size = s.heap.objs.size + 1 := Heap.size_push ..
  have isE : IsEnum ((s.heap.push o).push (enO s.heap)) (s.heap.push o).objs.size s.heap.objs.size 0 .none := Heap.get?_push_size _ rfl
  have q2 := q ((s.heap.push o).push (enO s.heap)) (by rw [← sz]; exact isE) (Heap.get?_push_of_some _ (Heap.get?_push_size _ B.free)) fun b x e => Heap.get?_push_of_some _ (Heap.get?_push_of_some _ e)
  rw [← sz] at q2
  exact ⟨⟨_, isE, rfl⟩, q2⟩
/-- the tuple at a as it stands at each turn, each item in a new pair -/
def ItE (K : PySem.W.Frag) (a : Addr) : It :=
  ⟨fun i H => ∃ (xs : List V) (x : V), SqT K H a xs ∧ xs[i]? = some x, fun i H v H' => ∃ T x, v = .ref T ∧ H T = none ∧ H' = upd H T (.tup [.int (i : Nat), x]) ∧ ∀ xs, SqT K H a xs → xs[i]? = some x, fun i H => ∃ xs : List V, SqT K H a xs ∧ xs.length = i⟩
theorem turn_enT {P : Program} {w : World} {K : PySem.W.Frag} {elts : List Expr} {kk : Nat} {tpos : Pos} (a e it : Addr) :
    Turn P w K (.Tuple elts kk tpos) (ItE K a) [e, it] e (fun i h => (∃ old, IsEnum h e it ((i : Nat) : Int) old) ∧ h.IsTupleIter it a i ∧ e ≠ it) where
  mem := List.mem_cons_self ..
  obj := fun i h st b hb => by
    obtain ⟨⟨old, hE⟩, ⟨o, ho, hc, hd⟩, _⟩ := st
    rcases List.mem_cons.mp hb with rfl | hb
    · exact ⟨_, hE, fun v q => nomatch q⟩
    · obtain rfl := List.mem_singleton.mp hb
      exact ⟨o, ho, fun v q => by rw [hd] at q; cases q⟩
  keep := fun i h h' st k => by
    obtain ⟨⟨old, hE⟩, hI, ne⟩ := st
    exact ⟨⟨old, k _ (List.mem_cons_self ..) _ hE⟩, hI.at fun o q => k _ (List.mem_cons_of_mem _ (List.mem_cons_self ..)) o q, ne⟩
  item := by
    intro X hP hw hK hc i pins s σ H E I fps st gg
    subst hP hw hK
    obtain ⟨⟨old, hE⟩, hI, ne⟩ := st
    obtain ⟨xs, x, hq, hx⟩ := gg
    obtain ⟨its, rv, pT, hz⟩ := I.tuple hq
    have pT : s.heap.IsTuple a its.toArray := pT
    obtain ⟨u, hu, ru⟩ := rv.get hx
    have ln := rv.length
    have li : i < its.length := by
      rw [← ln]
      exact (List.getElem?_eq_some_iff.mp hx).1
    obtain ⟨oa, ea, ca, na, da⟩ := id pT
    obtain ⟨oi, ei, ci, di⟩ := id hI
    have ae : e ≠ a := fun z => by
      have y : s.heap.get? a = some _ := z ▸ hE
      rw [ea] at y
      cases y
      cases da
    have ai : a ≠ it := fun z => by
      rw [z, ei] at ea
      cases ea
      rw [di] at da
      cases da
    have D := Draws.tuple (prog := X.prog) (w := X.w) (A := X.A.in1) (I.ok.hd hc) it a ai its.toArray
    have le : e < s.heap.objs.size := Heap.lt_size hE
    have lt : it < s.heap.objs.size := Heap.lt_size ei
    refine wpAny_pyNext_enum_itemD D hE ⟨hI, pT⟩ (by simpa using li) ne (by simp only [List.mem_cons, List.not_mem_nil, or_false, not_or]; exact ⟨ne, ae⟩) fun y h1 tk hy out st1 new _ kp => ?_
    obtain rfl : u = y := Option.some.inj ((by simpa using hu : its.toArray[i]? = some u).symm.trans hy)
    refine ⟨_, rfl, wpAny_letOwnedTupleGo_enum (s := { s with heap := h1, toks := tk + 1 }) out fun h2 in2 sb => ?_⟩
    have new2 : h2.get? s.heap.objs.size = some { cls := .type "tuple", data := .seq #[.int i tk, u] } := (sb.2 _ (Nat.ne_of_gt le)).trans new
    have fresh := I.hok.fresh (Nat.le_refl s.heap.objs.size)
    have pair : ObjOk X.prog X.w (upd H s.heap.objs.size (.tup [.int (i : Nat), x])) h2 s.heap.objs.size (.tup [.int (i : Nat), x]) :=
      ⟨show 2 ≤ sizeLine by decide, [.int i tk, u], .cons ⟨_, rfl⟩ (.cons ru .nil), ⟨_, new2, rfl, _, rfl⟩⟩
    have I2 : Inv X pins σ (upd H s.heap.objs.size (.tup [.int (i : Nat), x])) { s with heap := h2, toks := tk + 1 } :=
      I.turnedNew (ch := [e, it]) (fun b ob nb q => by
        have n1 : b ≠ e := fun z => nb (z ▸ List.mem_cons_self ..)
        have n2 : b ≠ it := fun z => nb (z ▸ List.mem_cons_of_mem _ (List.mem_cons_self ..))
        exact (sb.2 b n1).trans (kp b ob n1 n2 q)) fps (Nat.le_refl _) pair
    refine ⟨.ref s.heap.objs.size, _, I2, rfl, ⟨_, x, rfl, fresh, rfl, fun ys hy => by rw [I.tuple_inj hy hq]; exact hx⟩, ⟨⟨u, by rw [Int.natCast_succ]; exact in2⟩, st1.1.at fun o q => (sb.2 it (Ne.symm ne)).trans q, ne⟩, fun b hb => ?_⟩
    have lb : b < s.heap.objs.size := by
      rcases List.mem_cons.mp hb with rfl | h
      · exact le
      · rw [List.mem_singleton.mp h]; exact lt
    rw [upd_ne (Nat.ne_of_lt lb)]
    exact (fps b hb).1
  done := by
    intro X hP hw hK hc i pins s σ H E I fps st gg
    subst hP hw hK
    obtain ⟨⟨old, hE⟩, hI, ne⟩ := st
    obtain ⟨xs, hq, hx⟩ := gg
    obtain ⟨its, rv, pT, hz⟩ := I.tuple hq
    have pT : s.heap.IsTuple a its.toArray := pT
    obtain ⟨oa, ea, ca, na, da⟩ := id pT
    obtain ⟨oi, ei, ci, di⟩ := id hI
    have ai : a ≠ it := fun z => by
      rw [z, ei] at ea
      cases ea
      rw [di] at da
      cases da
    have D := Draws.tuple (prog := X.prog) (w := X.w) (A := X.A.in1) (I.ok.hd hc) it a ai its.toArray
    have ln := rv.length
    have en : i = its.toArray.size := by rw [List.size_toArray, ← ln, hx]
    obtain ⟨f0, f1, f2, f3, f4, f5⟩ := fps it (List.mem_cons_of_mem _ (List.mem_cons_self ..))
    exact wpAny_pyNext_enum_endD D hE ⟨en ▸ hI, pT⟩ fun h1 eb => ⟨rfl, I.turned (t' := s.toks) (fun b o hb q => eb b o hb q) f0 f1 f3 f4 f5⟩
  self := fun A i s Q E st h => let ⟨⟨_, hE⟩, _⟩ := st; wpAny_pyIter_enum hE h
def iEnT (K : PySem.W.Frag) (ta : TA) : TI := fun σ H R => ta σ H fun vs H1 => ∃ a xs, vs = [.ref a] ∧ SqT K H1 a xs ∧ R (ItE K a) H1
theorem pi_enT {X : Cx} {e : Expr} {ta : TA} {p pos tpos : Pos} {elts : List Expr} {kk : Nat} (hg : Gl X "enumerate") (hm : X.mg "enumerate" = none) (ha : PA X [e] ta) (hs : starEach [e] X.env = [(false, eval e X.env)] := by rfl) :
    PI X (.Tuple elts kk tpos) (.Call (.Name "enumerate" p) [e] [] pos) (iEnT X.K ta) := by
  refine ⟨fun pins s σ H R I h => ?_⟩
  refine Call_ (ld_blt I hg hm boot_enumerate (PyProof.Rows.callWith_type1 (thn (ha.run pos pins s σ H _ I h) fun us s1 ⟨vs, H1, I1, r1, a, xs, ev, hq, q⟩ => ?_) hs rfl))
  subst ev
  obtain ⟨u, rfl, r⟩ := vals1 r1
  cases r
  obtain ⟨its, rv, pT, hz⟩ := I1.tuple hq
  have pT : s1.heap.IsTuple a its.toArray := pT
  refine call_enB (begins_tuple a its.toArray) pT fun h1 isE itO kp => wpAny_pyIter_enum isE ?_
  refine ⟨s1.heap.objs.size + 1, [s1.heap.objs.size + 1, s1.heap.objs.size], _, _, H1, rfl, I1.kept (t' := s1.toks) kp, turn_enT a _ _, ⟨⟨.none, isE⟩, ⟨_, itO, rfl, rfl⟩, Nat.succ_ne_self _⟩, fun b hb => ?_, q⟩
  have le : s1.heap.objs.size ≤ b := by
    rcases List.mem_cons.mp hb with rfl | h
    · exact Nat.le_succ _
    · rw [List.mem_singleton.mp h]; exact Nat.le_refl _
  exact I1.fpOk le (I1.hok.fresh le)
/-- such a loop, by one word a turn -/
theorem for_enT {K : PySem.W.Frag} {a : Addr} {xs : List V} {g : TG} {tb : TS} {D : Ends} {σ : L2.St} {H : Hp} (Pv : Nat → L2.St → Hp → Prop) (h0 : Pv 0 σ H) (hq : ∀ i σ H, Pv i σ H → SqT K H a xs)
    (hs : ∀ (i : Nat) (x : V) (T : Addr) (σ : L2.St) (H : Hp), xs[i]? = some x → Pv i σ H → H T = none → g (.ref T) σ (upd H T (.tup [.int (i : Nat), x])) fun σ2 H2 => tb { D with nx := Pv (i + 1), ct := Pv (i + 1), bk := D.nx } σ2 H2) (hd : ∀ σ H, Pv xs.length σ H → D.nx σ H) :
    ∃ W : Nat → Nat → L2.St → Hp → Prop, (∃ m, W 0 m σ H) ∧ ∀ i m σ H, W i m σ H →
      ((ItE K a).stop i H ∧ D.nx σ H) ∨ ((ItE K a).go i H ∧ ∃ N : L2.St → Hp → Prop, (∀ σ' H', N σ' H' → ∃ m', m' < m ∧ W (i + 1) m' σ' H') ∧ ∀ v H', (ItE K a).yld i H v H' → g v σ H' fun σ2 H2 => tb { D with nx := N, ct := N, bk := D.nx } σ2 H2) := by
  refine ⟨fun i m σ H => m = xs.length - i ∧ i ≤ xs.length ∧ Pv i σ H, ⟨xs.length, rfl, Nat.zero_le _, h0⟩, fun i m σ H ⟨em, le, p⟩ => ?_⟩
  subst em
  have q := hq i σ H p
  by_cases lt : i < xs.length
  · refine .inr ⟨⟨xs, _, q, List.getElem?_eq_getElem lt⟩, Pv (i + 1), fun σ' H' p' => ⟨_, by omega, rfl, lt, p'⟩, fun v H' y => ?_⟩
    obtain ⟨T, x, rfl, nT, rfl, f⟩ := y
    exact hs i x T σ H (f xs q) p nT
  · obtain rfl : i = xs.length := by omega
    exact .inl ⟨⟨xs, q, rfl⟩, hd σ H p⟩
/-- a loop over a list or a tuple -/
def iSeq (K : PySem.W.Frag) (tl : TE) : TI := fun σ H R => tl σ H fun x H1 => ∃ a, x = .ref a ∧ (((∃ xs, SqL K H1 a xs) ∧ R (Itl K a) H1) ∨ ((∃ xs, SqT K H1 a xs) ∧ R (Itt K a) H1))
theorem pi_seq {X : Cx} {tg l : Expr} {tl : TE} (hl : PE X l tl) : PI X tg l (iSeq X.K tl) := by
  refine ⟨fun pins s σ H R I h => ?_⟩
  refine thn (hl.run pins s σ H _ I h) fun v s1 ⟨x, H1, I1, r1, a, e, q1⟩ => ?_
  subst e
  cases r1
  have fp : ∀ b ∈ [s1.heap.objs.size], FpOk X pins H1 b := fun b hb => by
    rw [List.mem_singleton.mp hb]
    exact I1.fpOk (Nat.le_refl _) (I1.hok.fresh (Nat.le_refl _))
  rcases q1 with ⟨⟨xs, hq⟩, q⟩ | ⟨⟨xs, hq⟩, q⟩
  · obtain ⟨its, rv, pl, hz⟩ := I1.list hq
    exact wpAny_pyIter_list pl.isList ⟨_, _, _, _, H1, rfl, I1.kept (t' := s1.toks) fun b o y => Heap.get?_push_of_some _ y, turn_list a _, ⟨_, Heap.get?_push_size _ rfl, rfl, rfl⟩, fp, q⟩
  · obtain ⟨its, rv, pl, hz⟩ := I1.tuple hq
    exact wpAny_pyIter_tuple (show s1.heap.IsTuple a its.toArray from pl) ⟨_, _, _, _, H1, rfl, I1.kept (t' := s1.toks) fun b o y => Heap.get?_push_of_some _ y, turn_tuple a _, ⟨_, Heap.get?_push_size _ rfl, rfl, rfl⟩, fp, q⟩
def rLcm : List V → Hp → VK → Prop := fun vs H Q => ∃ a b : Int, vs = [.int a, .int b] ∧ a.natAbs < 2 ^ 64 ∧ b.natAbs < 2 ^ 64 ∧ Q (.int ((Nat.lcm a.natAbs b.natAbs : Nat) : Int)) H
theorem cr_lcm {X : Cx} : CallR X (.builtin "math.lcm") rLcm := by
  intro pins s σ H vs us Q I r h
  obtain ⟨a, b, rfl, ha, hb, q⟩ := h
  obtain ⟨t, u, rfl⟩ := Vals.int2 r
  have e1 : Nat.lcm 1 a.natAbs = a.natAbs := Nat.lcm_one_left _
  refine PySem.W.mg_lcm ha hb ?_ ?_
  · rw [e1]
    have : Nat.lcm a.natAbs b.natAbs < 2 ^ 128 := by
      have h1 : Nat.lcm a.natAbs b.natAbs ≤ a.natAbs * b.natAbs := Nat.div_le_self _ _
      have h2 : a.natAbs * b.natAbs < 2 ^ 64 * 2 ^ 64 := Nat.mul_lt_mul'' ha hb
      exact Nat.lt_of_le_of_lt h1 h2
    exact Nat.lt_of_lt_of_le (PySem.Flt.log2_lt_of (by decide) (show ((Nat.lcm a.natAbs b.natAbs : Nat) : Int).natAbs < 2 ^ 128 from this)) (by decide)
  · rw [e1]
    exact ⟨.int _, H, I.tok _, ⟨_, rfl⟩, q⟩
end Gd

/-! a comprehension over zip of two tuples; a statement that is not reached; in of a dict. -/
namespace Gd
open PySem PySem.Spec PyProof.Rows L2
theorem lc_zipM {K : PySem.W.Frag} {a b : Addr} {xs ys : List V} {g : TG} {tt : TT} {te : TE} {vs : List Nat} {σ : L2.St} {H1 : Hp} {D : Addr} {Qd : Hp → Prop} (n : Nat) (hn : n = min xs.length ys.length) (Pv : Nat → Hp → Prop) (h0 : Pv 0 (upd H1 D (.lst []))) (hq : ∀ i H, Pv i H → SqT K H a xs ∧ SqT K H b ys)
    (hs : ∀ (i : Nat) (x y : V) (T : Addr) (H : Hp), xs[i]? = some x → ys[i]? = some y → Pv i H → H T = none → g (.ref T) (wipe σ vs) (upd H T (.tup [x, y])) fun σ2 H2 => wipe σ2 vs = wipe σ vs ∧ tt σ2 H2 fun b H3 =>
      if b = true then te σ2 H3 fun y H4 => ∃ acc, H4 D = some (.lst acc) ∧ acc.length < sizeLine ∧ Pv (i + 1) (upd H4 D (.lst (acc ++ [y]))) else Pv (i + 1) H3) (hd : ∀ H, Pv n H → Qd H) :
    ∃ W : Nat → Nat → Hp → Prop, (∃ m, W 0 m (upd H1 D (.lst []))) ∧ ∀ i m H, W i m H →
      ((RZ.ItzT K a b).stop i H ∧ Qd H) ∨ ((RZ.ItzT K a b).go i H ∧ ∃ Nx : Hp → Prop, (∀ H', Nx H' → ∃ m', m' < m ∧ W (i + 1) m' H') ∧ ∀ x H', (RZ.ItzT K a b).yld i H x H' → g x (wipe σ vs) H' fun σ2 H2 => wipe σ2 vs = wipe σ vs ∧ tt σ2 H2 fun b H3 =>
        if b = true then te σ2 H3 fun y H4 => ∃ acc, H4 D = some (.lst acc) ∧ acc.length < sizeLine ∧ Nx (upd H4 D (.lst (acc ++ [y]))) else Nx H3) := by
  refine ⟨fun i m H => m = n - i ∧ i ≤ n ∧ Pv i H, ⟨n, rfl, Nat.zero_le _, h0⟩, ?_⟩
  rintro i m H ⟨rfl, hi, p⟩
  obtain ⟨qx, qy⟩ := hq i H p
  by_cases hlt : i < n
  · have hlt1 : i < xs.length := by omega
    have hlt2 : i < ys.length := by omega
    have hx : xs[i]? = some xs[i] := List.getElem?_eq_getElem hlt1
    have hy : ys[i]? = some ys[i] := List.getElem?_eq_getElem hlt2
    refine .inr ⟨⟨xs, ys, _, _, qx, qy, hx, hy⟩, Pv (i + 1), fun H' p' => ⟨n - (i + 1), by omega, rfl, hlt, p'⟩, fun v H' y => ?_⟩
    obtain ⟨T, x', y', rfl, hT, rfl, f1, f2⟩ := y
    exact hs i x' y' T H (f1 xs qx) (f2 ys qy) p hT
  · have e : i = n := by omega
    subst e
    exact .inl ⟨⟨xs, ys, qx, qy, by omega⟩, hd H p⟩
section
variable {X : Cx}
/-- a statement that is never reached -/
theorem ps_dead {st : Stmt} : PS X st (fun _ _ _ => False) := ⟨fun _ _ _ _ _ _ h => h.elim⟩
theorem pe_dead {e : Expr} : PE X e (fun _ _ _ => False) := ⟨fun _ _ _ _ _ _ h => h.elim⟩
theorem pss_dead {b : List Stmt} : PSs X b (fun _ _ _ => False) := ⟨fun _ _ _ _ _ _ h => h.elim⟩
def rInDc : R2 := fun x y H Q => ∃ a o, y = .ref a ∧ DGet H a x o ∧ Q (.bl o.isSome) H
def rNotInDc : R2 := fun x y H Q => ∃ a o, y = .ref a ∧ DGet H a x o ∧ Q (.bl (!o.isSome)) H
theorem op_inDc (hu : X.A.units + 1 < cLine) : OpR X (compareOp .In) rInDc := by
  intro pins s σ H x y v u Q I rx ry h
  obtain ⟨a, o, rfl, g, q⟩ := h
  cases ry
  exact d_in hu I g rx fun s1 I1 => ⟨.bl _, H, I1, rfl, q⟩
theorem op_notInDc (hu : X.A.units + 1 < cLine) : OpR X (compareOp .NotIn) rNotInDc := by
  intro pins s σ H x y v u Q I rx ry h
  obtain ⟨a, o, rfl, g, q⟩ := h
  cases ry
  exact d_notIn hu I g rx fun s1 I1 => ⟨.bl _, H, I1, rfl, q⟩
end
theorem _root_.L2.Room.units1 {k : Nat} {A : Around} (hr : Room k A) : A.units + 1 < cLine := by have := hr.un; omega
end Gd
namespace Gd
open PySem PySem.Spec PyProof.Rows L2
/-- a walk over a tuple, whatever a turn does -/
theorem walk_tup {K : PySem.W.Frag} {a : Addr} {xs : List V} {B : V → Hp → (Hp → Prop) → Prop} {H0 : Hp} {Qd : Hp → Prop} (Pv : Nat → Hp → Prop) (h0 : Pv 0 H0) (hl : ∀ i H, i ≤ xs.length → Pv i H → SqT K H a xs)
    (hs : ∀ i x H, xs[i]? = some x → Pv i H → B x H (Pv (i + 1))) (hd : ∀ H, Pv xs.length H → Qd H) :
    ∃ W : Nat → Nat → Hp → Prop, (∃ m, W 0 m H0) ∧ ∀ i m H, W i m H →
      ((Itt K a).stop i H ∧ Qd H) ∨ ((Itt K a).go i H ∧ ∃ Nx : Hp → Prop, (∀ H', Nx H' → ∃ m', m' < m ∧ W (i + 1) m' H') ∧ ∀ x H', (Itt K a).yld i H x H' → B x H' Nx) := by
  refine ⟨fun i m H => m = xs.length - i ∧ i ≤ xs.length ∧ Pv i H, ⟨xs.length, by simp, Nat.zero_le _, h0⟩, ?_⟩
  rintro i m H ⟨rfl, hi, p⟩
  have q := hl i H hi p
  by_cases hlt : i < xs.length
  · refine .inr ⟨⟨xs, xs[i], q, by simp [hlt]⟩, Pv (i + 1), fun H' p' => ⟨xs.length - (i + 1), by omega, rfl, hlt, p'⟩, fun x H' y => ?_⟩
    obtain ⟨e, y⟩ := y
    subst e
    exact hs i x _ (y xs q) p
  · have e : i = xs.length := by omega
    subst e
    exact .inl ⟨⟨xs, q, Nat.le_refl _⟩, hd H p⟩
end Gd
namespace Gd
open PySem PySem.Spec PyProof.Rows L2
/-- a walk over a text's signs -/
theorem walk_str {x : Str} {B : V → Hp → (Hp → Prop) → Prop} {H0 : Hp} {Qd : Hp → Prop} (Pv : Nat → Hp → Prop) (h0 : Pv 0 H0)
    (hs : ∀ i c H, x.cps[i]? = some c → Pv i H → B (.str ⟨#[c]⟩) H (Pv (i + 1))) (hd : ∀ H, Pv x.cps.size H → Qd H) :
    ∃ W : Nat → Nat → Hp → Prop, (∃ m, W 0 m H0) ∧ ∀ i m H, W i m H →
      ((Its x).stop i H ∧ Qd H) ∨ ((Its x).go i H ∧ ∃ Nx : Hp → Prop, (∀ H', Nx H' → ∃ m', m' < m ∧ W (i + 1) m' H') ∧ ∀ v H', (Its x).yld i H v H' → B v H' Nx) := by
  refine ⟨fun i m H => m = x.cps.size - i ∧ i ≤ x.cps.size ∧ Pv i H, ⟨x.cps.size, by simp, Nat.zero_le _, h0⟩, ?_⟩
  rintro i m H ⟨rfl, hi, p⟩
  by_cases hlt : i < x.cps.size
  · refine .inr ⟨hlt, Pv (i + 1), fun H' p' => ⟨x.cps.size - (i + 1), by omega, rfl, hlt, p'⟩, fun v H' y => ?_⟩
    obtain ⟨rfl, c, hc, rfl⟩ := y
    exact hs i c _ hc p
  · have e : i = x.cps.size := by omega
    subst e
    exact .inl ⟨Nat.le_refl _, hd H p⟩
end Gd

/-! zip of three tuples in a loop, tuple(zip(list, list)), len(set(tuple of integers)). -/
namespace Z3
open PySem PySem.Spec PyProof.Rows L2 RZ
/-! ### three tuples side by side -/
def ItzT3 (K : PySem.W.Frag) (a b c : Addr) : It :=
  ⟨fun i H => ∃ (xs ys zs : List V) (x y z : V), SqT K H a xs ∧ SqT K H b ys ∧ SqT K H c zs ∧ xs.length = ys.length ∧ ys.length = zs.length ∧ xs[i]? = some x ∧ ys[i]? = some y ∧ zs[i]? = some z,
    fun i H v H' => ∃ T x y z, v = .ref T ∧ H T = none ∧ H' = upd H T (.tup [x, y, z]) ∧ (∀ xs, SqT K H a xs → xs[i]? = some x) ∧ (∀ ys, SqT K H b ys → ys[i]? = some y) ∧ ∀ zs, SqT K H c zs → zs[i]? = some z,
    fun i H => ∃ xs ys zs : List V, SqT K H a xs ∧ SqT K H b ys ∧ SqT K H c zs ∧ xs.length = i ∧ ys.length = i ∧ zs.length = i⟩
theorem turn_zip3 {P : Program} {w : World} {K : PySem.W.Frag} {elts : List Expr} {kk : Nat} {tpos : Pos} {a b c z TI TO i1 i2 i3 : Addr} (D : ZipSep3 z TI TO i1 i2 i3 [i1, a] [i2, b] [i3, c]) (na : a ≠ i1) (nb : b ≠ i2) (nc : c ≠ i3) :
    Turn P w K (.Tuple elts kk tpos) (ItzT3 K a b c) [z, TI, TO, i1, i2, i3] z (fun i h => IsZip h z TI TO .none ∧ IsTupOf3 h TI (.ref i1) (.ref i2) (.ref i3) ∧ (∃ x y v, IsTupOf3 h TO x y v) ∧ h.IsTupleIter i1 a i ∧ h.IsTupleIter i2 b i ∧ h.IsTupleIter i3 c i) where
  mem := by simp
  obj := fun i h st e hc => by
    obtain ⟨hz, hTI, ⟨x, y, v, hTO⟩, ⟨o1, e1, _, d1⟩, ⟨o2, e2, _, d2⟩, ⟨o3, e3, _, d3⟩⟩ := st
    have e' : e = z ∨ e = TI ∨ e = TO ∨ e = i1 ∨ e = i2 ∨ e = i3 := by simpa using hc
    rcases e' with q | q | q | q | q | q
    · rw [q]; exact ⟨_, hz, fun v q => nomatch q⟩
    · rw [q]; exact ⟨_, hTI, fun v q => nomatch q⟩
    · rw [q]; exact ⟨_, hTO, fun v q => nomatch q⟩
    · rw [q]; exact ⟨o1, e1, fun v q => by rw [d1] at q; cases q⟩
    · rw [q]; exact ⟨o2, e2, fun v q => by rw [d2] at q; cases q⟩
    · rw [q]; exact ⟨o3, e3, fun v q => by rw [d3] at q; cases q⟩
  keep := fun i h h' st k => by
    obtain ⟨hz, hTI, ⟨x, y, v, hTO⟩, h1, h2, h3⟩ := st
    exact ⟨k z (by simp) _ hz, k TI (by simp) _ hTI, ⟨x, y, v, k TO (by simp) _ hTO⟩, h1.at fun o q => k i1 (by simp) o q, h2.at fun o q => k i2 (by simp) o q, h3.at fun o q => k i3 (by simp) o q⟩
  item := by
    intro X hP hw hK hc i pins s σ H E I hf st hg
    subst hP hw hK
    obtain ⟨hz, hTI, ⟨x0, y0, v0, hTO⟩, h1, h2, h3⟩ := st
    obtain ⟨xs, ys, zs, x, y, v, hqx, hqy, hqz, le1, le2, hx, hy, hv⟩ := hg
    obtain ⟨its, rv, p, _⟩ := I.tuple hqx
    obtain ⟨its2, rv2, p2, _⟩ := I.tuple hqy
    obtain ⟨its3, rv3, p3, _⟩ := I.tuple hqz
    obtain ⟨u, hu, ru⟩ := rv.get hx
    obtain ⟨u2, hu2, ru2⟩ := rv2.get hy
    obtain ⟨u3, hu3, ru3⟩ := rv3.get hv
    have hzl : z < s.heap.objs.size := Heap.lt_size hz
    have hh : X.A.in1.in1.handled = none := I.ok.hd hc
    have l1 : i < its.toArray.size := by have := (List.getElem?_eq_some_iff.mp hu).1; simpa using this
    have l2 : i < its2.toArray.size := by have := (List.getElem?_eq_some_iff.mp hu2).1; simpa using this
    have l3 : i < its3.toArray.size := by have := (List.getElem?_eq_some_iff.mp hu3).1; simpa using this
    refine wpAny_pyNext_zipD3_item (A := X.A) D (Draws.tuple (A := X.A.in1) hh i1 a na its.toArray) (Draws.tuple (A := X.A.in1) hh i2 b nb its2.toArray) (Draws.tuple (A := X.A.in1) hh i3 c nc its3.toArray) hz hTI hTO ⟨h1, p⟩ ⟨h2, p2⟩ ⟨h3, p3⟩ l1 l2 l3 fun x1 x2 x3 h' tk e1 e2 e3 z' TO' q1 q2 q3 hT hsz hk => ?_
    obtain rfl : x1 = u := by
      have : its[i]? = some x1 := by simpa using e1
      rw [hu] at this; exact (Option.some.inj this).symm
    obtain rfl : x2 = u2 := by
      have : its2[i]? = some x2 := by simpa using e2
      rw [hu2] at this; exact (Option.some.inj this).symm
    obtain rfl : x3 = u3 := by
      have : its3[i]? = some x3 := by simpa using e3
      rw [hu3] at this; exact (Option.some.inj this).symm
    refine ⟨_, rfl, wpAny_letOwnedTupleGo_zip (s := { s with heap := h', toks := tk }) z' fun h'' z'' sb => ?_⟩
    have hT2 : h''.get? s.heap.objs.size = some { cls := .type "tuple", data := .seq #[x1, x2, x3] } := (sb.2 _ (Nat.ne_of_gt hzl)).trans hT
    have new : ObjOk X.prog X.w (upd H s.heap.objs.size (.tup [x, y, v])) h'' s.heap.objs.size (.tup [x, y, v]) :=
      ⟨by show 3 ≤ sizeLine; decide, [x1, x2, x3], .cons ru (.cons ru2 (.cons ru3 .nil)), ⟨_, hT2, rfl, _, rfl⟩⟩
    have I1 : Inv X pins σ (upd H s.heap.objs.size (.tup [x, y, v])) { s with heap := h'', toks := tk } :=
      I.turnedNew (t' := tk) (ch := [z, TI, TO, i1, i2, i3]) (fun c o hb q => (sb.2 c (fun q' => hb (by simp [q']))).trans (hk c o (fun q' => hb (by simp [q'])) (fun q' => hb (by simp [q'])) (fun q' => hb (by simp [q'])) (fun q' => hb (by simp [q'])) (fun q' => hb (by simp [q'])) q)) hf (Nat.le_refl _) new
    refine ⟨.ref s.heap.objs.size, _, I1, rfl, ⟨_, x, y, v, rfl, I.hok.fresh (Nat.le_refl _), rfl, fun l hl => by rw [I.tuple_inj hl hqx]; exact hx, fun l hl => by rw [I.tuple_inj hl hqy]; exact hy, fun l hl => by rw [I.tuple_inj hl hqz]; exact hv⟩, ⟨z'', ?_, ⟨x1, x2, x3, ?_⟩, ?_, ?_, ?_⟩, fun e hcm => ?_⟩
    · exact (sb.2 _ D.TIz).trans (hk _ _ D.TIz D.TITO D.TIi1 D.TIi2 D.TIi3 hTI)
    · exact (sb.2 _ D.TOz).trans TO'
    · exact q1.1.at fun o q => (sb.2 _ D.zi1.symm).trans q
    · exact q2.1.at fun o q => (sb.2 _ D.zi2.symm).trans q
    · exact q3.1.at fun o q => (sb.2 _ D.zi3.symm).trans q
    · have hlt : e < s.heap.objs.size := by
        have e' : e = z ∨ e = TI ∨ e = TO ∨ e = i1 ∨ e = i2 ∨ e = i3 := by simpa using hcm
        rcases e' with q | q | q | q | q | q
        · rw [q]; exact hzl
        · rw [q]; exact Heap.lt_size hTI
        · rw [q]; exact Heap.lt_size hTO
        · rw [q]; obtain ⟨_, e1, _⟩ := h1; exact Heap.lt_size e1
        · rw [q]; obtain ⟨_, e2, _⟩ := h2; exact Heap.lt_size e2
        · rw [q]; obtain ⟨_, e3, _⟩ := h3; exact Heap.lt_size e3
      rw [upd_ne (Nat.ne_of_lt hlt)]
      exact (hf e hcm).1
  done := by
    intro X hP hw hK hc i pins s σ H E I hf st hg
    subst hP hw hK
    obtain ⟨hz, hTI, ⟨x0, y0, v0, hTO⟩, h1, h2, h3⟩ := st
    obtain ⟨xs, ys, zs, hqx, hqy, hqz, lx, ly, lz⟩ := hg
    obtain ⟨its, rv, p, _⟩ := I.tuple hqx
    obtain ⟨its2, rv2, p2, _⟩ := I.tuple hqy
    obtain ⟨its3, rv3, p3, _⟩ := I.tuple hqz
    have l1 := rv.length
    have l2 := rv2.length
    have l3 := rv3.length
    have s1 : its.toArray.size = i := by simp; omega
    have s2 : its2.toArray.size = i := by simp; omega
    have s3 : its3.toArray.size = i := by simp; omega
    have hh : X.A.in1.in1.handled = none := I.ok.hd hc
    exact wpAny_pyNext_zipD3_end (A := X.A) D (Draws.tuple (A := X.A.in1) hh i1 a na its.toArray) (Draws.tuple (A := X.A.in1) hh i2 b nb its2.toArray) (Draws.tuple (A := X.A.in1) hh i3 c nc its3.toArray) hz hTI hTO ⟨h1, p⟩ ⟨h2, p2⟩ ⟨h3, p3⟩ (by omega) (by omega) (by omega) (.inl s1.symm)
      fun h' tk hk => ⟨rfl, I.turnedL (t' := tk) (ch := [z, TI, TO, i1, i2, i3]) (fun c o hb q =>
      hk c o (fun q' => hb (by simp [q'])) (fun q' => hb (by simp [q'])) (fun q' => hb (by simp [q'])) (fun q' => hb (by simp [q'])) (fun q' => hb (by simp [q'])) q) hf⟩
  self := fun A i s Q E st h => wpAny_pyIter_zip st.1 h
def iZip3 (K : PySem.W.Frag) (ta : TA) : TI := fun σ H R => ta σ H fun vs H1 => ∃ a b c xs ys zs, vs = [.ref a, .ref b, .ref c] ∧ SqT K H1 a xs ∧ SqT K H1 b ys ∧ SqT K H1 c zs ∧ R (ItzT3 K a b c) H1
theorem pi_zip3 {X : Cx} {e e2 e3 : Expr} {ta : TA} {p pos tpos : Pos} {elts : List Expr} {kk : Nat} (hg : Gl X "zip") (hm : X.mg "zip" = none) (ha : PA X [e, e2, e3] ta)
    (hs : starEach [e, e2, e3] X.env = (false, eval e X.env) :: starEach [e2, e3] X.env := by rfl) (hpl : (backTo pos (starEach [e2, e3] X.env)).any (·.1) = false := by rfl) :
    PI X (.Tuple elts kk tpos) (.Call (.Name "zip" p) [e, e2, e3] [] pos) (iZip3 X.K ta) := by
  refine ⟨fun pins s σ H R I h => ?_⟩
  refine Call_ (ld_blt I hg hm PyProof.Rows.boot_zip (PyProof.Rows.callWith_type1 (thn (ha.run pos pins s σ H _ I h) fun us s1 ⟨vs, H1, I1, r1, q1⟩ => ?_) hs hpl))
  obtain ⟨a, b, c, xs, ys, zs, ex, hqx, hqy, hqz, q⟩ := q1
  subst ex
  cases r1 with
  | cons r rr =>
    cases rr with
    | cons r' rr =>
      cases rr with
      | cons r'' rr =>
        cases rr
        cases r
        cases r'
        cases r''
        have fresh6 : ∀ c, c ∈ [s1.heap.objs.size + 5, s1.heap.objs.size + 3, s1.heap.objs.size + 4, s1.heap.objs.size, s1.heap.objs.size + 1, s1.heap.objs.size + 2] → FpOk X pins H1 c := fun c hcm => by
          have e' : c = s1.heap.objs.size + 5 ∨ c = s1.heap.objs.size + 3 ∨ c = s1.heap.objs.size + 4 ∨ c = s1.heap.objs.size ∨ c = s1.heap.objs.size + 1 ∨ c = s1.heap.objs.size + 2 := by simpa using hcm
          have hle : s1.heap.objs.size ≤ c := by
            rcases e' with z | z | z | z | z | z <;> rw [z] <;> first | exact Nat.le_refl _ | exact Nat.le_add_right _ _
          exact I1.fpOk hle (I1.hok.fresh hle)
        obtain ⟨its, rv, p1, _⟩ := I1.tuple hqx
        obtain ⟨its2, rv2, p2, _⟩ := I1.tuple hqy
        obtain ⟨its3, rv3, p3, _⟩ := I1.tuple hqz
        have la : @LT.lt Nat _ a s1.heap.objs.size := by obtain ⟨_, e, _⟩ := id p1; exact Heap.lt_size e
        have lb : @LT.lt Nat _ b s1.heap.objs.size := by obtain ⟨_, e, _⟩ := id p2; exact Heap.lt_size e
        have lc : @LT.lt Nat _ c s1.heap.objs.size := by obtain ⟨_, e, _⟩ := id p3; exact Heap.lt_size e
        refine zip_begins3 (begins_tuple a its.toArray) (begins_tuple b its2.toArray) (begins_tuple c its3.toArray) p1 p2 p3 fun h' hz hTI hTO h1 h2 h3 hsz hk => wpAny_pyIter_zip hz ?_
        have I2 : Inv X pins σ H1 { s1 with heap := h' } := I1.kept (t' := s1.toks) hk
        have ap : ZipSep3 (s1.heap.objs.size + 5) (s1.heap.objs.size + 3) (s1.heap.objs.size + 4) s1.heap.objs.size (s1.heap.objs.size + 1) (s1.heap.objs.size + 2) [s1.heap.objs.size, a] [s1.heap.objs.size + 1, b] [s1.heap.objs.size + 2, c] := by
          refine ⟨?_, ?_, ?_, ?_, ?_, ?_, ?_, ?_, ?_, ?_, ?_, ?_, ?_, ?_, ?_, ?_, ?_, ?_, ?_, ?_, ?_⟩
          all_goals first
            | exact List.mem_cons_self ..
            | (intro h; have h2 : @Eq Nat _ _ := h; omega)
            | (intro h; rcases List.mem_cons.mp h with h | h
               · have h2 : @Eq Nat _ _ := h; omega
               · have h2 : @Eq Nat _ _ := List.mem_singleton.mp h; omega)
        exact ⟨s1.heap.objs.size + 5, [s1.heap.objs.size + 5, s1.heap.objs.size + 3, s1.heap.objs.size + 4, s1.heap.objs.size, s1.heap.objs.size + 1, s1.heap.objs.size + 2], _, _, H1, rfl, I2, turn_zip3 ap (fun e => by have h2 : @Eq Nat _ _ := e; omega) (fun e => by have h2 : @Eq Nat _ _ := e; omega) (fun e => by have h2 : @Eq Nat _ _ := e; omega), ⟨hz, hTI, ⟨_, _, _, hTO⟩, ⟨_, h1, rfl, rfl⟩, ⟨_, h2, rfl, rfl⟩, ⟨_, h3, rfl, rfl⟩⟩, fresh6, q⟩
theorem for_zip3 {K : PySem.W.Frag} {a b c : Addr} {xs ys zs : List V} {g : TG} {tb : TS} {D : Ends} {σ : L2.St} {H : Hp} (hl : xs.length = ys.length) (hl2 : ys.length = zs.length) (Pv : Nat → L2.St → Hp → Prop) (h0 : Pv 0 σ H) (hq : ∀ i σ H, Pv i σ H → SqT K H a xs ∧ SqT K H b ys ∧ SqT K H c zs)
    (hs : ∀ (i : Nat) (x y z : V) (T : Addr) (σ : L2.St) (H : Hp), xs[i]? = some x → ys[i]? = some y → zs[i]? = some z → Pv i σ H → H T = none → g (.ref T) σ (upd H T (.tup [x, y, z])) fun σ2 H2 => tb { D with nx := Pv (i + 1), ct := Pv (i + 1), bk := D.nx } σ2 H2) (hd : ∀ σ H, Pv xs.length σ H → D.nx σ H) :
    ∃ W : Nat → Nat → L2.St → Hp → Prop, (∃ m, W 0 m σ H) ∧ ∀ i m σ H, W i m σ H →
      ((ItzT3 K a b c).stop i H ∧ D.nx σ H) ∨ ((ItzT3 K a b c).go i H ∧ ∃ N : L2.St → Hp → Prop, (∀ σ' H', N σ' H' → ∃ m', m' < m ∧ W (i + 1) m' σ' H') ∧ ∀ v H', (ItzT3 K a b c).yld i H v H' → g v σ H' fun σ2 H2 => tb { D with nx := N, ct := N, bk := D.nx } σ2 H2) := by
  refine ⟨fun i m σ H => m = xs.length - i ∧ i ≤ xs.length ∧ Pv i σ H, ⟨xs.length, rfl, Nat.zero_le _, h0⟩, ?_⟩
  rintro i m σ H ⟨rfl, hi, p⟩
  obtain ⟨qx, qy, qz⟩ := hq i σ H p
  by_cases hlt : i < xs.length
  · have hx : xs[i]? = some xs[i] := List.getElem?_eq_getElem hlt
    have hlt2 : i < ys.length := by omega
    have hy : ys[i]? = some ys[i] := List.getElem?_eq_getElem hlt2
    have hlt3 : i < zs.length := by omega
    have hz : zs[i]? = some zs[i] := List.getElem?_eq_getElem hlt3
    refine .inr ⟨⟨xs, ys, zs, _, _, _, qx, qy, qz, hl, hl2, hx, hy, hz⟩, Pv (i + 1), fun σ' H' p' => ⟨xs.length - (i + 1), by omega, rfl, hlt, p'⟩, fun v H' y => ?_⟩
    obtain ⟨T, x', y', z', rfl, hT, rfl, f1, f2, f3⟩ := y
    exact hs i x' y' z' T σ H (f1 xs qx) (f2 ys qy) (f3 zs qz) p hT
  · have e : i = xs.length := by omega
    subst e
    exact .inl ⟨⟨xs, ys, zs, qx, qy, qz, rfl, hl.symm, by omega⟩, hd σ H p⟩
/-! ### len(set(t)), t a tuple of unlike integers -/
def tLenSetT (K : PySem.W.Frag) (ta : TE) : TE := fun σ H Q => ta σ H fun x H1 => ∃ (l : Addr) (ns : List Int), x = .ref l ∧ SqT K H1 l (ns.map V.int) ∧ ns.Nodup ∧ ns.length ≤ 1000 ∧ Q (.int (ns.length : Nat)) H1
theorem pe_lenSetT {X : Cx} {a : Expr} {ta : TE} {p p2 q pos : Pos} (hg : Gl X "len") (hm : X.mg "len" = none) (hg2 : Gl X "set") (hm2 : X.mg "set" = none) (ha : PE X a ta) (hc : X.calm = true := by rfl)
    (na : starEach [a] X.env = (false, eval a X.env) :: starEach [] X.env := by rfl) : PE X (.Call (.Name "len" p) [.Call (.Name "set" p2) [a] [] q] [] pos) (tLenSetT X.K ta) := by
  refine ⟨fun pins s σ H Q I h => ?_⟩
  refine Call_ (ld_blt I hg hm boot_len ?_)
  refine PyProof.Rows.callWith_builtin1 (PyProof.Rows.args_cons ?_ rfl) rfl rfl
  refine Call_ (ld_blt I hg2 hm2 boot_set ?_)
  refine PyProof.Rows.callWith_type1 (PyProof.Rows.args_cons (thn (ha.run pins s σ H _ I h) fun v s1 ⟨x, H1, I1, r1, q1⟩ => PyProof.Rows.args_nil ?_) na) na rfl
  obtain ⟨l, ns, rfl, hq, hnd, hl, q1⟩ := q1
  cases r1
  obtain ⟨its, r, pl, hz⟩ := I1.tuple hq
  refine call_set_tupI ns (I1.ok.hd hc) pl (by simpa using intsAre_vals r) (by unfold scanBound; omega) fun h' tk c hS hc' hk => ?_
  refine PyProof.Rows.args_nil ?_
  obtain ⟨o, es, ep, t, ho, hex, hd, _, nd, iff, lt, hf, hn, _⟩ := hS
  have hlen : es.size = ns.length := by
    have pm : (es.toList.map keyOf).Perm ns := (List.perm_ext_iff_of_nodup nd hnd).mpr fun k => ⟨fun h => of_decide_eq_true ((iff k).mpr h), fun h => (iff k).mp (decide_eq_true h)⟩
    have := pm.length_eq
    rw [List.length_map, Array.length_toList] at this
    exact this
  have I2 : Inv X pins σ H1 { s1 with heap := h', toks := tk } := I1.kept hk
  exact call_len_set ho hex hd hf (by rw [hlen] <;> omega) ⟨.int ns.length, H1, I2.tok _, ⟨_, by rw [hlen]⟩, q1⟩
end Z3

/-! tuple(zip(xs, ys)) of two lists of one length: a new tuple of new pairs. -/
namespace Z3
open PySem PySem.Spec PyProof.Rows L2 RZ
theorem zip_no_len : typeLookup (.type "zip") "__len__" = pure none := by rw [typeLookup_type, builtinLookup_eq_fast]; kernel_rfl
theorem zip_no_hint : typeLookup (.type "zip") "__length_hint__" = pure none := by rw [typeLookup_type, builtinLookup_eq_fast]; kernel_rfl
structure ZSt (a b z TI TO i1 i2 : Addr) (i : Nat) (h : Heap) : Prop where
  h1 : h.IsListIter i1 a i
  h2 : h.IsListIter i2 b i
  hTI : IsPair h TI (.ref i1) (.ref i2)
  hTO : ∃ o, h.get? TO = some o
  st : (IsZip h z TI TO .none ∧ ∃ x y, IsPair h TO x y) ∨ ∃ T f oT, IsZipHeld h z TI TO T f ∧ h.get? T = some oT ∧ T ∉ [z, TO, i1, i2]
def lstO (Ts : List Addr) (c : Nat) : Obj := { cls := .type "list", dict := none, data := .seq (Ts.map Value.ref).toArray c, slots := #[] }
theorem Same.at_new {H : Hp} {p : Addr} {o : HO} (h : H p = none) : L2.Same H (upd H p o) := fun b x e => by
  rw [upd_ne (ne_of_none e h)]; exact e
section
variable {X : Cx} {pins : List (Addr × Obj)} {σ : L2.St} {a b z TI TO i1 i2 S : Addr} {xs ys : List V}
theorem zip_step {A : Around} {E : Value → Shared → Prop} (D : ZipApart z TI TO i1 i2 a b) (nS : S ∉ [z, TI, TO, i1, i2]) {i : Nat} {s : Shared} {H : Hp} {oS : Obj} (I : Inv X pins σ H s) (hf : ∀ b ∈ [z, TI, TO, i1, i2], FpOk X pins H b)
    (hqx : SqL X.K H a xs) (hqy : SqL X.K H b ys) (Z : ZSt a b z TI TO i1 i2 i s.heap) (hS : s.heap.get? S = some oS) {x y : V} (hx : xs[i]? = some x) (hy : ys[i]? = some y) :
    wpAny (model X.prog X.w) A (pyNext (.ref z)) (fun r s1 => r = some (.ref s.heap.objs.size) ∧ Inv X pins σ (upd H s.heap.objs.size (.tup [x, y])) s1 ∧ ZSt a b z TI TO i1 i2 (i + 1) s1.heap ∧ s1.heap.get? S = some oS ∧ s.heap.objs.size < s1.heap.objs.size ∧ s.heap.objs.size ∉ [z, TI, TO, i1, i2, S]) E s := by
  obtain ⟨its, rv, p, _⟩ := I.list hqx
  obtain ⟨its2, rv2, p2, _⟩ := I.list hqy
  obtain ⟨u, hu, ru⟩ := rv.get hx
  obtain ⟨u2, hu2, ru2⟩ := rv2.get hy
  obtain ⟨h1, h2, hTI, ⟨oO, gO⟩, st⟩ := Z
  have ltO : TO < s.heap.objs.size := Heap.lt_size gO
  have Szz : S ≠ z := fun e => nS (by simp [e])
  have Sto : S ≠ TO := fun e => nS (by simp [e])
  have S1 : S ≠ i1 := fun e => nS (by simp [e])
  have S2 : S ≠ i2 := fun e => nS (by simp [e])
  have lt1 : i1 < s.heap.objs.size := by obtain ⟨_, e, _⟩ := h1; exact Heap.lt_size e
  have lt2 : i2 < s.heap.objs.size := by obtain ⟨_, e, _⟩ := h2; exact Heap.lt_size e
  have ltT : TI < s.heap.objs.size := Heap.lt_size hTI
  have ltS : S < s.heap.objs.size := Heap.lt_size hS
  rcases st with ⟨hz, x0, y0, hTO⟩ | ⟨T, f, oT, hz, hT, nT⟩
  · have ltz : z < s.heap.objs.size := Heap.lt_size hz
    refine wpAny_pyNext_zip_item D hz hTI hTO h1 h2 p.isList p2.isList (x := u) (y := u2) (by simpa using hu) (by simpa using hu2) fun h' z' TO' h1' h2' hT hsz hk => ?_
    have new : ObjOk X.prog X.w (upd H s.heap.objs.size (.tup [x, y])) h' s.heap.objs.size (.tup [x, y]) :=
      ⟨by show 2 ≤ sizeLine; decide, [u, u2], .cons ru (.cons ru2 .nil), ⟨_, hT, rfl, _, rfl⟩⟩
    have I1 : Inv X pins σ (upd H s.heap.objs.size (.tup [x, y])) { s with heap := h' } :=
      I.turnedNew (t' := s.toks) (ch := [z, TI, TO, i1, i2]) (fun c o hb q => hk c o (fun q' => hb (by simp [q'])) (fun q' => hb (by simp [q'])) (fun q' => hb (by simp [q'])) (fun q' => hb (by simp [q'])) q) hf (Nat.le_refl _) new
    refine ⟨rfl, I1, ⟨h1', h2', hk _ _ D.TIz D.TITO D.TIi1 D.TIi2 hTI, ⟨_, TO'⟩, .inr ⟨s.heap.objs.size, false, _, z', hT, ?_⟩⟩, hk _ _ Szz Sto S1 S2 hS, ?_, ?_⟩
    · simp only [List.mem_cons, List.not_mem_nil, or_false, not_or]
      exact ⟨Nat.ne_of_gt ltz, Nat.ne_of_gt ltO, Nat.ne_of_gt lt1, Nat.ne_of_gt lt2⟩
    · show s.heap.objs.size < h'.objs.size
      rw [hsz]; exact Nat.lt_succ_self _
    · simp only [List.mem_cons, List.not_mem_nil, or_false, not_or]
      exact ⟨Nat.ne_of_gt ltz, Nat.ne_of_gt ltT, Nat.ne_of_gt ltO, Nat.ne_of_gt lt1, Nat.ne_of_gt lt2, Nat.ne_of_gt ltS⟩
  · have ltz : z < s.heap.objs.size := Heap.lt_size hz
    have nTz : T ≠ z := fun e => nT (by simp [e])
    have nT1 : T ≠ i1 := fun e => nT (by simp [e])
    have nT2 : T ≠ i2 := fun e => nT (by simp [e])
    refine wpAny_pyNext_zip_item_held D hz hT hTI h1 h2 p.isList p2.isList (x := u) (y := u2) (by simpa using hu) (by simpa using hu2) fun h' z' h1' h2' hT' hsz hk => ?_
    have new : ObjOk X.prog X.w (upd H s.heap.objs.size (.tup [x, y])) h' s.heap.objs.size (.tup [x, y]) :=
      ⟨by show 2 ≤ sizeLine; decide, [u, u2], .cons ru (.cons ru2 .nil), ⟨_, hT', rfl, _, rfl⟩⟩
    have I1 : Inv X pins σ (upd H s.heap.objs.size (.tup [x, y])) { s with heap := h' } :=
      I.turnedNew (t' := s.toks) (ch := [z, TI, TO, i1, i2]) (fun c o hb q => hk c o (fun q' => hb (by simp [q'])) (fun q' => hb (by simp [q'])) (fun q' => hb (by simp [q'])) q) hf (Nat.le_refl _) new
    refine ⟨rfl, I1, ⟨h1', h2', hk _ _ D.TIz D.TIi1 D.TIi2 hTI, ⟨_, hk _ _ D.TOz D.TOi1 D.TOi2 gO⟩, .inr ⟨T, true, oT, z', hk _ _ nTz nT1 nT2 hT, nT⟩⟩, hk _ _ Szz S1 S2 hS, ?_, ?_⟩
    · show s.heap.objs.size < h'.objs.size
      rw [hsz]; exact Nat.lt_succ_self _
    · simp only [List.mem_cons, List.not_mem_nil, or_false, not_or]
      exact ⟨Nat.ne_of_gt ltz, Nat.ne_of_gt ltT, Nat.ne_of_gt ltO, Nat.ne_of_gt lt1, Nat.ne_of_gt lt2, Nat.ne_of_gt ltS⟩
/-- the pairs at Ts -/
def Prs (H : Hp) (xs ys : List V) (Ts : List Addr) : Prop := ∀ (j : Nat) (T : Addr) (x y : V), Ts[j]? = some T → xs[j]? = some x → ys[j]? = some y → H T = some (.tup [x, y])
theorem zip_loop {A : Around} {R : Result → Shared → Prop} (hh : A.handled = none) (D : ZipApart z TI TO i1 i2 a b) (nS : S ∉ [z, TI, TO, i1, i2]) (hl : xs.length = ys.length) (hn : xs.length ≤ sizeLine) :
    ∀ (k i : Nat) (s : Shared) (H : Hp) (Ts : List Addr) (c : Nat), xs.length - i = k → i ≤ xs.length → Inv X pins σ H s → (∀ b ∈ [z, TI, TO, i1, i2, S], FpOk X pins H b) → SqL X.K H a xs → SqL X.K H b ys → ZSt a b z TI TO i1 i2 i s.heap →
    Ts.length = i → Prs H xs ys Ts → s.heap.get? S = some (lstO Ts c) →
    (∀ s' H' Ts' c', Inv X pins σ H' s' → Ts'.length = xs.length → L2.Same H H' → Prs H' xs ys Ts' → s'.heap.get? S = some (lstO Ts' c') → R (.ok (.ret (.ref S))) s') →
    codeAny (model X.prog X.w) A (.builtin "list.extend.loop" ⟨[.ref S, .ref z, .ref S], []⟩) R s := by
  intro k
  induction k with
  | zero =>
    intro i s H Ts c hk hi I hf hqx hqy Z lT hP hS hR
    have hin : i = xs.length := by omega
    subst hin
    refine codeAny_builtin F.entry_extend_loop ?_
    rw [Around.under_plainId F.plain_extend_loop _]
    show wpAny _ A.in1 (pyNext (.ref z) >>= _) _ _ s
    have hf5 : ∀ b ∈ [z, TI, TO, i1, i2], FpOk X pins H b := fun b hb => hf b (by simp only [List.mem_cons, List.not_mem_nil, or_false] at hb ⊢; rcases hb with h | h | h | h | h <;> simp [h])
    have Szz : S ≠ z := fun e => nS (by simp [e])
    have Sto : S ≠ TO := fun e => nS (by simp [e])
    have S1 : S ≠ i1 := fun e => nS (by simp [e])
    have S2 : S ≠ i2 := fun e => nS (by simp [e])
    obtain ⟨its, rv, p, _⟩ := I.list hqx
    obtain ⟨its2, rv2, p2, _⟩ := I.list hqy
    have l1 := rv.length
    obtain ⟨h1, h2, hTI, ⟨oO, gO⟩, st⟩ := Z
    rcases st with ⟨hz, x0, y0, hTO⟩ | ⟨T, f, oT, hz, hT, nT⟩
    · refine wpAny_bind (wpAny_pyNext_zip_end hh D hz hTI hTO h1 h2 p.isList p2.isList (.inl (by simp; omega)) fun h' hk => ?_)
      refine wpAny_pure (hR _ H Ts c (I.turnedL (t' := s.toks) (ch := [z, TI, TO, i1, i2]) (fun c o hb q => hk c o (fun q' => hb (by simp [q'])) (fun q' => hb (by simp [q'])) (fun q' => hb (by simp [q'])) (fun q' => hb (by simp [q'])) q) hf5) lT (fun _ _ e => e) hP (hk _ _ Szz Sto S1 S2 hS))
    · refine wpAny_bind (wpAny_pyNext_zip_end_held hh D hz hT hTI h1 h2 p.isList p2.isList (.inl (by simp; omega)) fun h' hk => ?_)
      refine wpAny_pure (hR _ H Ts c (I.turnedL (t' := s.toks) (ch := [z, TI, TO, i1, i2]) (fun c o hb q => hk c o (fun q' => hb (by simp [q'])) (fun q' => hb (by simp [q'])) (fun q' => hb (by simp [q'])) q) hf5) lT (fun _ _ e => e) hP (hk _ _ Szz S1 S2 hS))
  | succ k ih =>
    intro i s H Ts c hk hi I hf hqx hqy Z lT hP hS hR
    have hlt : i < xs.length := by omega
    refine codeAny_builtin F.entry_extend_loop ?_
    rw [Around.under_plainId F.plain_extend_loop _]
    show wpAny _ A.in1 (pyNext (.ref z) >>= _) _ _ s
    have hf5 : ∀ b ∈ [z, TI, TO, i1, i2], FpOk X pins H b := fun b hb => hf b (by simp only [List.mem_cons, List.not_mem_nil, or_false] at hb ⊢; rcases hb with h | h | h | h | h <;> simp [h])
    have hx : xs[i]? = some xs[i] := List.getElem?_eq_getElem hlt
    have hy : ys[i]? = some (ys[i]'(by omega)) := List.getElem?_eq_getElem (by omega)
    refine wpAny_bind (thn (zip_step (S := S) D nS I hf5 hqx hqy Z hS hx hy) fun r s1 ⟨er, I1, Z1, hS1, lt, nin⟩ => ?_)
    subst er
    have nT : H s.heap.objs.size = none := I.hok.fresh (Nat.le_refl _)
    have sm : L2.Same H (upd H s.heap.objs.size (.tup [xs[i], ys[i]'(by omega)])) := Same.at_new nT
    have hf1 : ∀ b ∈ [z, TI, TO, i1, i2, S], FpOk X pins (upd H s.heap.objs.size (.tup [xs[i], ys[i]'(by omega)])) b := fun b hb => by
      obtain ⟨g0, g⟩ := hf b hb
      exact ⟨by rw [upd_ne (fun e => nin (by rw [← e]; exact hb))]; exact g0, g⟩
    show wpAny _ A.in1 (updateSeq S (·.push (.ref s.heap.objs.size)) >>= _) _ _ _
    refine wpAny_bind ?_
    have e2 : (Ts.map Value.ref).toArray.push (.ref s.heap.objs.size) = ((Ts ++ [s.heap.objs.size]).map Value.ref).toArray := by simp
    refine wpAny_updateSeq hS1 rfl (wpAny_pure ⟨plainId_quiet F.plain_extend_loop _, ?_⟩) (by simp; omega) (by simp; omega)
    have hS2 := Heap.get?_update_self (Obj.mapSeq (·.push (Value.ref s.heap.objs.size))) hS1 rfl
    have I2 : Inv X pins σ (upd H s.heap.objs.size (.tup [xs[i], ys[i]'(by omega)])) { s1 with heap := s1.heap.update S (Obj.mapSeq (·.push (Value.ref s.heap.objs.size))) } :=
      I1.turnedL (t' := s1.toks) (ch := [S]) (fun c o hb q => (Heap.get?_update_other _ _ (fun e : S = c => hb (by simp [e]))).trans q) (fun b hb => hf1 b (by simp only [List.mem_singleton] at hb; simp [hb]))
    have oth : ∀ c o, c ≠ S → s1.heap.get? c = some o → (s1.heap.update S (Obj.mapSeq (·.push (Value.ref s.heap.objs.size)))).get? c = some o := fun c o hc q => (Heap.get?_update_other _ _ hc.symm).trans q
    have Z2 : ZSt a b z TI TO i1 i2 (i + 1) (s1.heap.update S (Obj.mapSeq (·.push (Value.ref s.heap.objs.size)))) := by
      obtain ⟨h1, h2, hTI, ⟨oO, gO⟩, st⟩ := Z1
      refine ⟨h1.at fun o q => oth _ o (fun e => nS (by simp [← e])) q, h2.at fun o q => oth _ o (fun e => nS (by simp [← e])) q, oth _ _ (fun e => nS (by simp [← e])) hTI, ⟨oO, oth _ _ (fun e => nS (by simp [← e])) gO⟩, ?_⟩
      rcases st with ⟨hz, x0, y0, hTO⟩ | ⟨T, f, oT, hz, hT, nT⟩
      · exact .inl ⟨oth _ _ (fun e => nS (by simp [← e])) hz, x0, y0, oth _ _ (fun e => nS (by simp [← e])) hTO⟩
      · by_cases hTS : T = S
        · subst hTS
          exact .inr ⟨T, f, _, oth _ _ (fun e => nS (by simp [← e])) hz, hS2, nT⟩
        · exact .inr ⟨T, f, oT, oth _ _ (fun e => nS (by simp [← e])) hz, oth _ _ hTS hT, nT⟩
    have hqx1 : SqL X.K (upd H s.heap.objs.size (.tup [xs[i], ys[i]'(by omega)])) a xs := sm.seq hqx
    have hqy1 : SqL X.K (upd H s.heap.objs.size (.tup [xs[i], ys[i]'(by omega)])) b ys := sm.seq hqy
    refine ih (i + 1) _ _ (Ts ++ [s.heap.objs.size]) (c + 1) (by omega) hlt I2 hf1 hqx1 hqy1 Z2 (by rw [List.length_append, lT]; rfl) (fun j T x y hT hx' hy' => ?_) ?_ (fun s' H' Ts' c' I' l' sm' P' S' => hR s' H' Ts' c' I' l' (fun p o e => sm' p o (sm p o e)) P' S')
    · by_cases hj : j < Ts.length
      · rw [List.getElem?_append_left hj] at hT
        exact sm _ _ (hP j T x y hT hx' hy')
      · rw [List.getElem?_append_right (by omega)] at hT
        have hj' : j - Ts.length < [s.heap.objs.size].length := (List.getElem?_eq_some_iff.mp hT).1
        have ej : j = i := by simp at hj'; omega
        subst ej
        rw [lT, Nat.sub_self] at hT
        cases hT
        rw [hx] at hx'
        rw [hy] at hy'
        cases hx'
        cases hy'
        exact upd_same
    · rw [hS2]
      simp [lstO, Obj.mapSeq]
theorem collect_zip {A : Around} {E : Value → Shared → Prop} {Q : List Value → Shared → Prop} {s : Shared} {H : Hp} (hh : A.handled = none) (D : ZipApart z TI TO i1 i2 a b) (hl : xs.length = ys.length) (hn : xs.length ≤ sizeLine)
    (I : Inv X pins σ H s) (hf : ∀ b ∈ [z, TI, TO, i1, i2], FpOk X pins H b) (hqx : SqL X.K H a xs) (hqy : SqL X.K H b ys) (Z : ZSt a b z TI TO i1 i2 0 s.heap) (hz : IsZip s.heap z TI TO .none)
    (hQ : ∀ s' H' Ts', Inv X pins σ H' s' → Ts'.length = xs.length → L2.Same H H' → Prs H' xs ys Ts' → Q (Ts'.map Value.ref) s') :
    wpAny (model X.prog X.w) A (collect (.ref z)) Q E s := by
  have lt1 : i1 < s.heap.objs.size := by obtain ⟨_, e, _⟩ := Z.h1; exact Heap.lt_size e
  have lt2 : i2 < s.heap.objs.size := by obtain ⟨_, e, _⟩ := Z.h2; exact Heap.lt_size e
  have ltT : TI < s.heap.objs.size := Heap.lt_size Z.hTI
  have ltO : TO < s.heap.objs.size := by obtain ⟨_, e⟩ := Z.hTO; exact Heap.lt_size e
  have ltz : z < s.heap.objs.size := Heap.lt_size hz
  have nS : s.heap.objs.size ∉ [z, TI, TO, i1, i2] := by
    simp only [List.mem_cons, List.not_mem_nil, or_false, not_or]
    exact ⟨Nat.ne_of_gt ltz, Nat.ne_of_gt ltT, Nat.ne_of_gt ltO, Nat.ne_of_gt lt1, Nat.ne_of_gt lt2⟩
  have hSI : s.heap.objs.size ≠ z := Nat.ne_of_gt ltz
  unfold collect
  refine wpAny_bind (wpAny_runValue (codeAny_builtin F.entry_proto_collect ?_))
  rw [Around.under_plainId F.plain_proto_collect _]
  show wpAny _ A.in1 (newList [] >>= fun l => again (.builtin "list.__iadd__" ⟨[l, .ref z], []⟩)) _ _ s
  refine wpAny_bind (wpAny_newObj_type ?_)
  refine wpAny_pure ⟨plainId_quiet F.plain_list_iadd _, codeAny_builtin F.entry_list_iadd ?_⟩
  rw [Around.under_plainId F.plain_list_iadd _]
  show wpAny _ A.in1 (Builtin.List.listExtendWith (.ref s.heap.objs.size) (.ref z) (.ref s.heap.objs.size)) _ _ _
  have up : ∀ c o, s.heap.get? c = some o → (s.heap.push { cls := .type "list", data := .seq ([] : List Value).toArray }).get? c = some o := fun c o e => Heap.get?_push_of_some _ e
  have hz₁ := up _ _ hz
  have hT : Shared.TypeIs { s with heap := s.heap.push { cls := .type "list", data := .seq ([] : List Value).toArray } } (.ref z) "zip" := ⟨_, hz₁, rfl⟩
  unfold Builtin.List.listExtendWith
  refine wpAny_bind (wpAny_typeOf hT ?_)
  have h1 : Builtin.List.listSameRef (.ref s.heap.objs.size) (.ref z) = false := by simp [Builtin.List.listSameRef, hSI]
  have h2 : (Value.type "zip" == Value.type "list") = false := by decide
  have h3 : (Value.type "zip" == Value.type "tuple") = false := by decide
  simp only [h1, h2, h3, Bool.or_false, Bool.false_eq_true, if_false]
  refine wpAny_bind (wpAny_pyIter_zip hz₁ ?_)
  refine wpAny_bind (wpAny_holding ?_)
  unfold Builtin.List.listLengthHint
  refine wpAny_bind (wpAny_specialOf hT zip_no_len ?_)
  show wpAny _ A.in1 (specialOf (Value.ref z) (Str.ofString "__length_hint__") >>= _) _ _ _
  refine wpAny_bind (wpAny_specialOf hT zip_no_hint ?_)
  refine wpAny_pure ?_
  show wpAny _ A.in1 (rule "list.extend.makes-room" >>= fun _ => Builtin.List.listTouch (.ref s.heap.objs.size) >>= fun _ =>
    again (.builtin "list.extend.loop" ⟨[.ref s.heap.objs.size, .ref z, .ref s.heap.objs.size], []⟩)) _ _ _
  refine wpAny_bind (wpAny_rule ?_)
  have hS₁ : (s.heap.push { cls := .type "list", data := .seq ([] : List Value).toArray }).get? s.heap.objs.size = some { cls := .type "list", data := .seq ([] : List Value).toArray } := Heap.get?_push_size _ rfl
  refine wpAny_bind ?_
  show wpAny _ A.in1 (updateSeq s.heap.objs.size (·.push .none) >>= fun _ => updateSeq s.heap.objs.size (·.pop)) _ _ _
  refine wpAny_bind (wpAny_updateSeq hS₁ rfl ?_)
  have hS₂ := Heap.get?_update_self (Obj.mapSeq (·.push Value.none)) hS₁ rfl
  refine wpAny_updateSeq hS₂ rfl ?_
  have hS₃ := Heap.get?_update_self (Obj.mapSeq (·.pop)) hS₂ rfl
  have oth : ∀ b o, b ≠ s.heap.objs.size → (s.heap.push { cls := .type "list", data := .seq ([] : List Value).toArray }).get? b = some o →
      (((s.heap.push { cls := .type "list", data := .seq ([] : List Value).toArray }).update s.heap.objs.size (Obj.mapSeq (·.push Value.none))).update s.heap.objs.size (Obj.mapSeq (·.pop))).get? b = some o :=
    fun b o hb e => (Heap.get?_update_other _ _ (Ne.symm hb)).trans ((Heap.get?_update_other _ _ (Ne.symm hb)).trans e)
  have keep : ∀ b o, s.heap.get? b = some o → (((s.heap.push { cls := .type "list", data := .seq ([] : List Value).toArray }).update s.heap.objs.size (Obj.mapSeq (·.push Value.none))).update s.heap.objs.size (Obj.mapSeq (·.pop))).get? b = some o :=
    fun b o e => oth b o (Nat.ne_of_lt (Heap.lt_size e)) (up _ _ e)
  have I1 : Inv X pins σ H { s with heap := (((s.heap.push { cls := .type "list", data := .seq ([] : List Value).toArray }).update s.heap.objs.size (Obj.mapSeq (·.push Value.none))).update s.heap.objs.size (Obj.mapSeq (·.pop))) } := I.kept (t' := s.toks) keep
  have hf6 : ∀ b ∈ [z, TI, TO, i1, i2, s.heap.objs.size], FpOk X pins H b := fun b hb => by
    by_cases e : b = s.heap.objs.size
    · subst e
      exact I.fpOk (Nat.le_refl _) (I.hok.fresh (Nat.le_refl _))
    · refine hf b ?_
      simp only [List.mem_cons, List.not_mem_nil, or_false] at hb ⊢
      rcases hb with h | h | h | h | h | h
      · simp [h]
      · simp [h]
      · simp [h]
      · simp [h]
      · simp [h]
      · exact absurd h e
  have Z1 : ZSt a b z TI TO i1 i2 0 (((s.heap.push { cls := .type "list", data := .seq ([] : List Value).toArray }).update s.heap.objs.size (Obj.mapSeq (·.push Value.none))).update s.heap.objs.size (Obj.mapSeq (·.pop))) := by
    obtain ⟨h1, h2, hTI, ⟨oO, gO⟩, st⟩ := Z
    refine ⟨h1.at fun o q => keep _ o q, h2.at fun o q => keep _ o q, keep _ _ hTI, ⟨oO, keep _ _ gO⟩, ?_⟩
    rcases st with ⟨hz, x0, y0, hTO⟩ | ⟨T, f, oT, hz, hT, nT⟩
    · exact .inl ⟨keep _ _ hz, x0, y0, keep _ _ hTO⟩
    · exact .inr ⟨T, f, oT, keep _ _ hz, keep _ _ hT, nT⟩
  refine wpAny_pure ⟨plainId_quiet F.plain_extend_loop _, zip_loop (X := X) (pins := pins) (σ := σ) hh D nS hl hn _ 0 _ H [] _ rfl (Nat.zero_le _) I1 hf6 hqx hqy Z1 rfl (fun j T x y h => by simp at h) hS₃ fun s' H' Ts' c' I' l' sm P' hS' => ?_⟩
  show wpAny _ A (load s.heap.objs.size >>= _) _ _ s'
  refine wpAny_bind (wpAny_load hS' ?_)
  refine wpAny_pure ?_
  show Q ((Ts'.map Value.ref).toArray.toList) s'
  rw [List.toList_toArray]
  exact hQ s' H' Ts' I' l' sm P'
theorem code_tuple_new_zip {A : Around} {E : Value → Shared → Prop} {Q₁ : Value → Shared → Prop} {s : Shared} {H : Hp} (hh : A.handled = none) (D : ZipApart z TI TO i1 i2 a b) (hl : xs.length = ys.length) (hn : xs.length ≤ sizeLine)
    (I : Inv X pins σ H s) (hf : ∀ b ∈ [z, TI, TO, i1, i2], FpOk X pins H b) (hqx : SqL X.K H a xs) (hqy : SqL X.K H b ys) (Z : ZSt a b z TI TO i1 i2 0 s.heap) (hz : IsZip s.heap z TI TO .none)
    (h : ∀ s' H' Ts', Inv X pins σ H' s' → Ts'.length = xs.length → L2.Same H H' → Prs H' xs ys Ts' → Q₁ (.ref s'.heap.objs.size) { s' with heap := s'.heap.push { cls := .type "tuple", data := .seq (Ts'.map Value.ref).toArray } }) :
    codeAny (model X.prog X.w) A (.call (.builtin "tuple.__new__") ⟨[.type "tuple", .ref z], []⟩) (wants Q₁ E) s := by
  refine codeAny_of_tree ?_
  show wpAny _ A.in1 (do checkBuiltinCall "tuple.__new__" ⟨[.type "tuple", .ref z], []⟩; again (.builtin "tuple.__new__" ⟨[.type "tuple", .ref z], []⟩)) _ _ s
  refine wpAny_bind (wpAny_of_eq (F.newCall_tuple_1 _) (wpAny_pure ⟨plainId_quiet F.plain_tuple_new _, codeAny_builtin F.entry_tuple_new ?_⟩))
  rw [Around.under_plainId F.plain_tuple_new _]
  have hsub := sub_tuple_self
  have hinit := init_tuple_lookup
  have hmh := madeHere_tuple
  have hTI : s.TypeIs (.ref z) "zip" := ⟨_, hz, rfl⟩
  have hh1 : A.in1.handled = none := hh
  wp_walk using wpAny_typeOf hTI, collect_zip (X := X) (pins := pins) (σ := σ) (A := A.in1) hh1 D hl hn I hf hqx hqy Z hz
  intro s' H' Ts' I' l' sm P'
  show wpAny _ _ (Builtin.Tuple.tupleExact (Ts'.map Value.ref).toArray >>= fun v => ret v) _ _ _
  unfold Builtin.Tuple.tupleExact
  refine wpAny_bind (wpAny_newObj_type ?_ (by show (Ts'.map Value.ref).toArray.size ≤ sizeLine; simp; omega))
  refine wpAny_pure ?_
  exact h s' H' Ts' I' l' sm P'
theorem call_tuple_zip {A : Around} {E : Value → Shared → Prop} {Q : Value → Shared → Prop} {s : Shared} {H : Hp} (hh : A.handled = none) (D : ZipApart z TI TO i1 i2 a b) (hl : xs.length = ys.length) (hn : xs.length ≤ sizeLine)
    (I : Inv X pins σ H s) (hf : ∀ b ∈ [z, TI, TO, i1, i2], FpOk X pins H b) (hqx : SqL X.K H a xs) (hqy : SqL X.K H b ys) (Z : ZSt a b z TI TO i1 i2 0 s.heap) (hz : IsZip s.heap z TI TO .none)
    (hQ : ∀ s' H' Ts', Inv X pins σ H' s' → Ts'.length = xs.length → L2.Same H H' → Prs H' xs ys Ts' → Q (.ref s'.heap.objs.size) { s' with heap := s'.heap.push { cls := .type "tuple", data := .seq (Ts'.map Value.ref).toArray } }) :
    wpAny (model X.prog X.w) A (call (.type "tuple") [.ref z]) Q E s := by
  refine callType_codes (Q₁ := fun obj s₁ => s₁.TypeIs obj "tuple" ∧ Q obj s₁) F.called_tuple (F.typeCall_tuple_1 _) F.entry_object_init
    (code_tuple_new_zip (X := X) (pins := pins) (σ := σ) (A := A.in1) hh D hl hn I hf hqx hqy Z hz fun s' H' Ts' I' l' sm P' => ⟨⟨_, Heap.get?_push_size _ rfl, rfl⟩, hQ s' H' Ts' I' l' sm P'⟩) fun obj s₁ h₁ => ?_
  exact ⟨h₁.1, F.args_object_init_2 obj _, object_init_meets F.called_tuple.init.lookup F.called_tuple.made (by decide) X.prog X.w A.in1 _ s₁ ⟨h₁.1, rfl, h₁.2⟩⟩
end
/-- tuple(zip(xs, ys)) -/
def tTupZip (K : PySem.W.Frag) (ta : TA) : TE := fun σ H Q => ta σ H fun vs H1 => ∃ a b xs ys, vs = [.ref a, .ref b] ∧ SqL K H1 a xs ∧ SqL K H1 b ys ∧ xs.length = ys.length ∧ xs.length ≤ 1000 ∧
  ∀ Ts H2 q, Ts.length = xs.length → L2.Same H1 H2 → Prs H2 xs ys Ts → H2 q = none → Q (.ref q) (upd H2 q (.tup (Ts.map V.ref)))
theorem vals_refs : ∀ Ts : List Addr, Vals (Ts.map V.ref) (Ts.map Value.ref)
  | [] => .nil
  | _ :: t => .cons rfl (vals_refs t)
theorem pe_tupZip {X : Cx} {e e2 : Expr} {ta : TA} {p p2 q pos : Pos} (hg : Gl X "tuple") (hm : X.mg "tuple" = none) (hg2 : Gl X "zip") (hm2 : X.mg "zip" = none) (ha : PA X [e, e2] ta) (hc : X.calm = true := by rfl)
    (hs : starEach [e, e2] X.env = (false, eval e X.env) :: starEach [e2] X.env := by rfl) (hpl : (backTo q (starEach [e2] X.env)).any (·.1) = false := by rfl) :
    PE X (.Call (.Name "tuple" p) [.Call (.Name "zip" p2) [e, e2] [] q] [] pos) (tTupZip X.K ta) := by
  refine ⟨fun pins s σ H Q I h => ?_⟩
  refine Call_ (ld_blt I hg hm boot_tuple ?_)
  refine PyProof.Rows.callWith_type1 (PyProof.Rows.args_cons ?_ rfl) rfl rfl
  refine Call_ (ld_blt I hg2 hm2 PyProof.Rows.boot_zip (PyProof.Rows.callWith_type1 (thn (ha.run q pins s σ H _ I h) fun us s1 ⟨vs, H1, I1, r1, q1⟩ => ?_) hs hpl))
  obtain ⟨a, b, xs, ys, ex, hqx, hqy, hl, hn, q1⟩ := q1
  subst ex
  cases r1 with
  | cons r rr =>
    cases rr with
    | cons r' rr =>
      cases rr
      cases r
      cases r'
      obtain ⟨its, rv, p1, _⟩ := I1.list hqx
      obtain ⟨its2, rv2, p2, _⟩ := I1.list hqy
      refine call_zip_2 p1.isList p2.isList fun h' hz hTI hTO h1 h2 hsz hk => ?_
      refine PyProof.Rows.args_nil ?_
      have I2 : Inv X pins σ H1 { s1 with heap := h' } := I1.kept (t' := s1.toks) hk
      have fresh5 : ∀ c, c ∈ [s1.heap.objs.size + 4, s1.heap.objs.size + 2, s1.heap.objs.size + 3, s1.heap.objs.size, s1.heap.objs.size + 1] → FpOk X pins H1 c := fun c hcm => by
        have e' : c = s1.heap.objs.size + 4 ∨ c = s1.heap.objs.size + 2 ∨ c = s1.heap.objs.size + 3 ∨ c = s1.heap.objs.size ∨ c = s1.heap.objs.size + 1 := by simpa using hcm
        have hle : s1.heap.objs.size ≤ c := by
          rcases e' with z | z | z | z | z <;> rw [z] <;> first | exact Nat.le_refl _ | exact Nat.le_add_right _ _
        exact I1.fpOk hle (I1.hok.fresh hle)
      refine call_tuple_zip (X := X) (pins := pins) (σ := σ) (I1.ok.hd hc) (PySem.W.ktu_apart s1.heap.objs.size a b p1.lt p2.lt) hl (by rw [sizeLine_eq]; omega) I2 fresh5 hqx hqy ⟨h1, h2, hTI, ⟨_, hTO⟩, .inl ⟨hz, _, _, hTO⟩⟩ hz fun s' H' Ts' I' l' sm P' => ?_
      have new : ObjOk X.prog X.w (upd H' s'.heap.objs.size (.tup (Ts'.map V.ref))) (s'.heap.push { cls := .type "tuple", data := .seq (Ts'.map Value.ref).toArray }) s'.heap.objs.size (.tup (Ts'.map V.ref)) :=
        ⟨by rw [List.length_map, l', sizeLine_eq]; omega, Ts'.map Value.ref, vals_refs Ts', IsTup.new _ _⟩
      exact ⟨.ref s'.heap.objs.size, _, I'.laid (t' := s'.toks) (fun b o e => Heap.get?_push_of_some _ e) (Nat.le_refl _) new, rfl, q1 Ts' H' _ l' sm P' (I'.hok.fresh (Nat.le_refl _))⟩
end Z3

namespace M66
open PySem PySem.Spec PyProof.Rows L2 SX Own Gd
open C8 (Cal pe_c pe_gc pe_mk Mak pss_cut)
def topS (i : Nat) : Stmt := PySem.Challenge.pw_paperbest_k66_whole_least_boxes_of_eithe.main.body.getD i (.Pass ⟨0, 0, 0, 0⟩)
def inS (i j : Nat) : Stmt := match topS i with
  | .ClassDef _ _ _ b _ _ _ _ _ _ _ => b.getD j (.Pass ⟨0, 0, 0, 0⟩)
  | s => s
def wordsL : List Str := ["and", "bench", "if", "least", "or", "room", "round", "table", "then", "unlike"]
/-- what the text's top has: the tuple of words at aW, the dict of tests at aT -/
structure Txt (K : PySem.W.Frag) (mg : Str → Option Value) (w : World) (aW aT : Addr) (es : Array DictEntry) (n : Nat) : Prop where
  b_len : mg "len" = none
  b_range : mg "range" = none
  b_int : mg "int" = none
  b_abs : mg "abs" = none
  b_all : mg "all" = none
  b_sum : mg "sum" = none
  b_repr : mg "repr" = none
  b_tuple : mg "tuple" = none
  b_bool : mg "bool" = none
  b_str : mg "str" = none
  b_zip : mg "zip" = none
  b_any : mg "any" = none
  b_enumerate : mg "enumerate" = none
  b_isinstance : mg "isinstance" = none
  b_min : mg "min" = none
  b_max : mg "max" = none
  c_LONGEST_NAME : ∃ u, mg "LONGEST_NAME" = some u ∧ RelV (.int 6) u
  c_MOST_SUMS : ∃ u, mg "MOST_SUMS" = some u ∧ RelV (.int 6) u
  c_LETTERS : ∃ u, mg "LETTERS" = some u ∧ RelV (.str "abcdefghijklmnopqrstuvwxyz") u
  c_WORDS : ∃ u, mg "WORDS" = some u ∧ RelV (.ref aW) u
  c_WISH_TESTS : ∃ u, mg "WISH_TESTS" = some u ∧ RelV (.ref aT) u
  qW : ∀ H, SqT K H aW (wordsL.map V.str)
  kd : KDict K w aT es n
/-! ### integers in tuples -/
def tI (a : List Int) : HO := .tup (a.map V.int)
def LV (H : Hp) (v : V) (a : List Int) : Prop := ∃ q, v = .ref q ∧ H q = some (tI a)
theorem LV.same {H H' : Hp} {v : V} {a : List Int} (h : LV H v a) (s : Same H H') : LV H' v a := by
  obtain ⟨q, e, f⟩ := h
  exact ⟨q, e, s _ _ f⟩
theorem at_map {α : Type} {f : α → V} {a : List α} {i : Nat} {x : V} (h : (a.map f)[i]? = some x) : ∃ c, a[i]? = some c ∧ x = f c := by
  rw [List.getElem?_map] at h
  obtain ⟨c, hc, e⟩ := Option.map_eq_some_iff.mp h
  exact ⟨c, hc, e.symm⟩
theorem small1000 {n : Nat} (h : n < 1000) : n < sizeLine := by rw [sizeLine_eq]; omega
theorem small1001 {n : Nat} (h : n ≤ 1000) : n ≤ sizeLine := by rw [sizeLine_eq]; omega
theorem take_one {α : Type} {a : List α} {i : Nat} {c : α} (h : a[i]? = some c) : a.take (i + 1) = a.take i ++ [c] := by rw [List.take_add_one, h]; rfl
/-- each less than the next one -/
def Inc (a : List Int) : Prop := ∀ i x y, a[i]? = some x → a[i + 1]? = some y → x < y
def Within (n : Nat) (a : List Int) : Prop := ∀ c ∈ a, 0 ≤ c ∧ c < n
theorem reps {i : Nat} : (List.replicate i true).all id = true := by simp
theorem rep_app {i : Nat} : (List.replicate (i + 1) true).map V.bl = (List.replicate i true).map V.bl ++ [V.bl true] := by rw [List.replicate_succ', List.map_append]; rfl
theorem cut_tail {xs : List V} (h : 1 ≤ xs.length) : cutV xs (some 1) none = xs.drop 1 := by
  unfold cutV
  rw [show (some 1 : Option Int) = some ((1 : Nat) : Int) from rfl, HT.sIx_nat, HT.sIx_none, Nat.min_eq_left h, List.take_of_length_le (by rw [List.length_drop]; omega)]
section
variable {P : Program} {w : World} {K : PySem.W.Frag} {mg : Str → Option Value} {base : Heap} {aW aT : Addr} {es : Array DictEntry} {nn : Nat}
abbrev s_is_whole : Stmt := topS 5
abbrev n_is_whole : List Str := ["value"]
theorem sc_is_whole : FnScope n_is_whole ["value"] (defScope s_is_whole) := ⟨rfl, rfl, rfl, by decide +kernel, rfl, by decide +kernel, by decide +kernel⟩
def spWhole : Sp := fun vs H Q _ => ∃ i : Int, vs = [.int i] ∧ Q (.bl true) H
theorem ok_is_whole {f : Addr} {fd : FuncData} (F : Fun K "is_whole" "is_whole" s_is_whole f fd) (T : Txt K mg w aW aT es nn) : FnOk P w K mg base CX0 1 f fd ["value"] spWhole := by
  refine F.ok sc_is_whole (fun vs H Q E h => ?_) (fun cdv A outer s H vs Q E hr h => ?_)
  · obtain ⟨i, rfl, _⟩ := h
    rfl
  · obtain ⟨i, rfl, q⟩ := h
    refine ⟨_, (pss_one (ps_ret (pe_and (pe_callB call_isE (by rfl) T.b_isinstance (by decide +kernel) (pa_cons (pv 0) (pa_cons (pe_bltn (v := .ty "int") (by rfl) T.b_int boot_int rfl) pa_nil))) (pe_one (pe_not (pe_callB call_isE (by rfl) T.b_isinstance (by decide +kernel) (pa_cons (pv 0) (pa_cons (pe_bltn (v := .ty "bool") (by rfl) T.b_bool boot_bool rfl) pa_nil)))))))), ?_⟩
    exact ⟨_, rfl, .int i, .type "int", "int", true, rfl, .base (.base (.int i)), by rfl, true, rfl, iteT ⟨_, rfl, .int i, .type "int", "bool", false, rfl, .base (.base (.int i)), by rfl, false, rfl, q⟩⟩
abbrev s_is_integers : Stmt := topS 15
abbrev n_is_integers : List Str := ["value", "many", "item"]
theorem sc_is_integers : FnScope n_is_integers ["value", "many"] (defScope s_is_integers) := ⟨rfl, rfl, rfl, by decide +kernel, rfl, by decide +kernel, by decide +kernel⟩
def spInts : Sp := fun vs H Q _ => ∃ (v : V) (a : List Int), vs = [v, .int (a.length : Nat)] ∧ LV H v a ∧ a.length ≤ 1000 ∧ ∀ H', Same H H' → Q (.bl true) H'
theorem ok_is_integers {f : Addr} {fd : FuncData} (F : Fun K "is_integers" "is_integers" s_is_integers f fd) (T : Txt K mg w aW aT es nn) (c_is_whole : Cal P w K mg base 1 "is_whole" spWhole []) : FnOk P w K mg base CX0 2 f fd ["value", "many"] spInts := by
  refine F.ok sc_is_integers (fun vs H Q E h => ?_) (fun cdv A outer s H vs Q E hr h => ?_)
  · obtain ⟨v, a, rfl, _⟩ := h
    rfl
  · obtain ⟨v, a, rfl, ⟨p, rfl, hp⟩, la, q⟩ := h
    refine ⟨_, (pss_cons (ps_if (PW.pt (pw_or (pt_not (pt_val (pe_callB call_isE (by rfl) T.b_isinstance (by decide +kernel) (pa_cons (pv 0) (pa_cons (pe_bltn (v := .ty "tuple") (by rfl) T.b_tuple boot_tuple rfl) pa_nil))))) (pw_or1 (pt_cmpR op_ne (pe_callB call_len_seq (by rfl) T.b_len (by decide +kernel) (pa_cons (pv 0) pa_nil)) (pv 1) (nomark _))))) (pss_one (ps_ret pe_bl)) pss_nil)
      (pss_one (ps_ret (pe_callB (cr_all rfl) (by rfl) T.b_all (by decide +kernel) (pa_cons (pe_lc (own := [("item", 2)]) rfl sc_is_integers.nd (pi_tup (pv 0)) (blkOk_by (N := n_is_integers) (sc := defScope s_is_integers) (by decide +kernel)) (fun _ _ _ _ _ => (pg_name (i := 2) sc_is_integers.nd rfl (.inl rfl))) (fun _ _ _ _ _ => pts_nil) (fun _ _ _ _ _ => (pe_c c_is_whole hr (by decide) (by rfl) (pa_cons (pv 2) pa_nil)))) pa_nil))))), ?_⟩
    refine ⟨_, rfl, .ref p, .type "tuple", "tuple", true, rfl, .base (.base (.tup hp)), by rfl, true, rfl, iteF ?_⟩
    refine ⟨_, rfl, p, _, rfl, .inr (sq_tup hp), _, rfl, rfl, _, rfl, ite2 (fun h => absurd h (by simp)) (fun _ => ?_)⟩
    refine ⟨_, rfl, p, rfl, ⟨_, sq_tup hp⟩, fun D nD => ?_⟩
    refine lc_tup (K := K) (a := p) (xs := a.map V.int) (fun i H' => H' D = some (.lst ((List.replicate i true).map V.bl)) ∧ Same H H') ⟨upd_same, same_upd nD⟩ (fun i H' _ h => sq_tup (h.2 _ _ hp)) ?_ ?_
    · rintro i x H2 hx ⟨hD, sm⟩
      obtain ⟨c, hc, rfl⟩ := at_map hx
      have li : i < a.length := (List.getElem?_eq_some_iff.mp hc).1
      refine ⟨rfl, _, rfl, c, rfl, _, hD, (by rw [List.length_map, List.length_replicate]; exact small1000 (by omega)), ?_, same_at sm nD⟩
      rw [upd_same, rep_app]
    · rintro H2 ⟨hD, sm⟩
      refine ⟨D, _, rfl, sq_lst hD, ?_⟩
      rw [reps]
      exact q _ sm
end
end M66

namespace M66
open PySem PySem.Spec PyProof.Rows L2 SX Own Gd
open C8 (Cal pe_c pe_gc pe_mk Mak pss_cut)
inductive All2 {α : Type} (R : V → α → Prop) : List V → List α → Prop
  | nil : All2 R [] []
  | cons {v : V} {vs : List V} {a : α} {as : List α} : R v a → All2 R vs as → All2 R (v :: vs) (a :: as)
theorem All2.mono {α : Type} {R R' : V → α → Prop} (h : ∀ v a, R v a → R' v a) : ∀ {vs : List V} {as : List α}, All2 R vs as → All2 R' vs as
  | _, _, .nil => .nil
  | _, _, .cons g t => .cons (h _ _ g) (t.mono h)
theorem All2.len {α : Type} {R : V → α → Prop} : ∀ {vs : List V} {as : List α}, All2 R vs as → vs.length = as.length
  | _, _, .nil => rfl
  | _, _, .cons _ t => congrArg (· + 1) t.len
theorem All2.app {α : Type} {R : V → α → Prop} {v : V} {a : α} : ∀ {vs : List V} {as : List α}, All2 R vs as → R v a → All2 R (vs ++ [v]) (as ++ [a])
  | _, _, .nil, h => .cons h .nil
  | _, _, .cons g t, h => .cons g (t.app h)
theorem All2.cat {α : Type} {R : V → α → Prop} : ∀ {vs : List V} {as : List α} {vs' : List V} {as' : List α}, All2 R vs as → All2 R vs' as' → All2 R (vs ++ vs') (as ++ as')
  | _, _, _, _, .nil, h => h
  | _, _, _, _, .cons g t, h => .cons g (t.cat h)
theorem All2.at_ {α : Type} {R : V → α → Prop} : ∀ {vs : List V} {as : List α} {i : Nat} {v : V}, All2 R vs as → vs[i]? = some v → ∃ a, as[i]? = some a ∧ R v a
  | _, _, 0, _, .cons h t, e => by
    cases e
    exact ⟨_, rfl, h⟩
  | _, _, i + 1, _, .cons h t, e => by
    obtain ⟨r, e1, e2⟩ := t.at_ (i := i) (by simpa using e)
    exact ⟨r, by simpa using e1, e2⟩
theorem All2.at2 {α : Type} {R : V → α → Prop} {vs : List V} {as : List α} {i : Nat} {a : α} (h : All2 R vs as) (e : as[i]? = some a) : ∃ v, vs[i]? = some v ∧ R v a := by
  have l := h.len
  have hi : i < vs.length := by rw [l]; exact (List.getElem?_eq_some_iff.mp e).1
  obtain ⟨a', e', g⟩ := h.at_ (List.getElem?_eq_getElem hi)
  rw [e] at e'
  cases e'
  exact ⟨_, List.getElem?_eq_getElem hi, g⟩
theorem All2.take {α : Type} {R : V → α → Prop} : ∀ (n : Nat) {vs : List V} {as : List α}, All2 R vs as → All2 R (vs.take n) (as.take n)
  | 0, _, _, _ => .nil
  | n + 1, _, _, .nil => .nil
  | n + 1, _, _, .cons g t => .cons g (t.take n)
theorem All2.drop {α : Type} {R : V → α → Prop} : ∀ (n : Nat) {vs : List V} {as : List α}, All2 R vs as → All2 R (vs.drop n) (as.drop n)
  | 0, _, _, h => h
  | n + 1, _, _, .nil => .nil
  | n + 1, _, _, .cons g t => t.drop n
/-- a row: coefficients, whether equal, the bound -/
structure Row where
  am : List Int
  eq : Bool
  bd : Int
def RV (H : Hp) (v : V) (r : Row) : Prop := ∃ p q, v = .ref p ∧ H p = some (.tup [.str "sum", .ref q, .bl r.eq, .int r.bd]) ∧ H q = some (tI r.am)
theorem RV.same {H H' : Hp} {v : V} {r : Row} (h : RV H v r) (s : Same H H') : RV H' v r := by
  obtain ⟨p, q, e, f, g⟩ := h
  exact ⟨p, q, e, s _ _ f, s _ _ g⟩
structure RowOk (n : Nat) (r : Row) : Prop where
  len : r.am.length = n
  nz : ∃ c ∈ r.am, c ≠ 0
/-- rows in a tuple -/
def RsV (H : Hp) (v : V) (rl : List Row) : Prop := ∃ p us, v = .ref p ∧ H p = some (.tup us) ∧ All2 (RV H) us rl
theorem RsV.same {H H' : Hp} {v : V} {rl : List Row} (h : RsV H v rl) (s : Same H H') : RsV H' v rl := by
  obtain ⟨p, us, e, f, g⟩ := h
  exact ⟨p, us, e, s _ _ f, g.mono fun v x k => k.same s⟩
inductive Wish
  | sum (r : Row)
  | either (rs : List Row)
def WV (H : Hp) (v : V) : Wish → Prop
  | .sum r => RV H v r
  | .either rs => ∃ p u, v = .ref p ∧ H p = some (.tup [.str "either", u]) ∧ RsV H u rs
theorem WV.same {H H' : Hp} {v : V} {x : Wish} (h : WV H v x) (s : Same H H') : WV H' v x := by
  cases x with
  | sum r => exact RV.same h s
  | either a =>
    obtain ⟨p, u, e, f, g⟩ := h
    exact ⟨p, u, e, s _ _ f, g.same s⟩
structure EiOk (n : Nat) (rs : List Row) : Prop where
  two : 2 ≤ rs.length
  six : rs.length ≤ 6
  ok : ∀ r ∈ rs, RowOk n r ∧ r.eq = false
  n100 : n ≤ 100
def WishOk (size : Nat) : Wish → Prop
  | .sum r => RowOk size r ∧ size ≤ 100
  | .either rs => EiOk size rs
section
variable {P : Program} {w : World} {K : PySem.W.Frag} {mg : Str → Option Value} {base : Heap} {aW aT : Addr} {es : Array DictEntry} {nn : Nat}
abbrev s_is_sum : Stmt := topS 16
abbrev n_is_sum : List Str := ["value", "size", "_", "coefficients", "equal", "bound", "item"]
theorem sc_is_sum : FnScope n_is_sum ["value", "size"] (defScope s_is_sum) := ⟨rfl, rfl, rfl, by decide +kernel, rfl, by decide +kernel, by decide +kernel⟩
def spSum : Sp := fun vs H Q _ => ∃ (v : V) (n : Nat) (r : Row), vs = [v, .int n] ∧ RV H v r ∧ RowOk n r ∧ n ≤ 100 ∧ ∀ H', Same H H' → Q (.bl true) H'
theorem ok_is_sum {f : Addr} {fd : FuncData} (F : Fun K "_is_sum" "_is_sum" s_is_sum f fd) (T : Txt K mg w aW aT es nn) (c_is_whole : Cal P w K mg base 1 "is_whole" spWhole []) (c_is_integers : Cal P w K mg base 2 "is_integers" spInts []) : FnOk P w K mg base CX0 4 f fd ["value", "size"] spSum := by
  refine F.ok sc_is_sum (fun vs H Q E h => ?_) (fun cdv A outer s H vs Q E hr h => ?_)
  · obtain ⟨v, n, r, rfl, _⟩ := h
    rfl
  · obtain ⟨v, n, r, rfl, ⟨p, qa, rfl, hp, hq⟩, ok, n100, q⟩ := h
    have len := ok.len
    refine ⟨_, (pss_cons (ps_if (PW.pt (pw_or (pt_cmpR op_ne (pe_callB call_len_seq (by rfl) T.b_len (by decide +kernel) (pa_cons (pv 0) pa_nil)) pe_int (nomark _)) (pw_or1 (pt_cmpR op_ne (pe_ix ix_tup (pv 0) pe_int (fun _ _ => rfl)) pe_str (nomark _))))) (pss_one (ps_ret pe_bl)) pss_nil)
      (pss_cons (ps_asg (pv 0) (pg_tup rfl (pgs_cons (pg_name (i := 2) sc_is_sum.nd rfl (.inl rfl)) (pgs_cons (pg_name (i := 3) sc_is_sum.nd rfl (.inl rfl)) (pgs_cons (pg_name (i := 4) sc_is_sum.nd rfl (.inl rfl)) (pgs_cons (pg_name (i := 5) sc_is_sum.nd rfl (.inl rfl)) pgs_nil))))))
      (pss_cons (ps_if (PW.pt (pw_or (pt_not (pt_val (pe_c c_is_integers hr (by decide) (by rfl) (pa_cons (pv 3) (pa_cons (pv 1) pa_nil))))) (pw_or1 (pt_not (pt_val (pe_callB (cr_any rfl) (by rfl) T.b_any (by decide +kernel) (pa_cons (pe_lc (own := [("item", 6)]) rfl sc_is_sum.nd (pi_tup (pv 3)) (blkOk_by (N := n_is_sum) (sc := defScope s_is_sum) (by decide +kernel)) (fun _ _ _ _ _ => (pg_name (i := 6) sc_is_sum.nd rfl (.inl rfl))) (fun _ _ _ _ _ => pts_nil) (fun _ _ _ _ _ => (pe_cmpR op_ne (pv 6) pe_int (nomark _)))) pa_nil))))))) (pss_one (ps_ret pe_bl)) pss_nil)
      (pss_one (ps_ret (pe_and (pe_callB call_isE (by rfl) T.b_isinstance (by decide +kernel) (pa_cons (pv 4) (pa_cons (pe_bltn (v := .ty "bool") (by rfl) T.b_bool boot_bool rfl) pa_nil))) (pe_one (pe_c c_is_whole hr (by decide) (by rfl) (pa_cons (pv 5) pa_nil))))))))), ?_⟩
    refine ⟨_, rfl, p, _, rfl, .inr (sq_tup hp), rfl, _, rfl, iteF ⟨_, rfl, p, _, 0, _, rfl, rfl, sq_tup hp, rfl, rfl, _, rfl, iteF ?_⟩⟩
    refine ⟨_, rfl, p, _, rfl, sq_tup hp, rfl, _, _, rfl, _, _, rfl, _, _, rfl, _, _, rfl, rfl, ?_⟩
    refine ⟨_, rfl, _, rfl, .ref qa, r.am, by rw [len]; rfl, ⟨qa, rfl, hq⟩, by omega, fun H1 s1 => ⟨true, rfl, iteF ?_⟩⟩
    have hq1 := s1 _ _ hq
    refine ⟨_, rfl, qa, rfl, ⟨_, sq_tup hq1⟩, fun D nD => ?_⟩
    refine lc_tup (K := K) (a := qa) (xs := r.am.map V.int) (fun i H' => H' D = some (.lst (((r.am.take i).map (fun c : Int => decide (c ≠ 0))).map V.bl)) ∧ Same H1 H') ⟨upd_same, same_upd nD⟩ (fun i H' _ h => sq_tup (h.2 _ _ hq1)) ?_ ?_
    · rintro i x H2 hx ⟨hD, sm⟩
      obtain ⟨c, hc, rfl⟩ := at_map hx
      have li : i < r.am.length := (List.getElem?_eq_some_iff.mp hc).1
      refine ⟨rfl, _, rfl, rfl, _, hD, (by rw [List.length_map, List.length_map, List.length_take]; exact small1000 (by omega)), ?_, same_at sm nD⟩
      rw [upd_same, take_one hc, List.map_append, List.map_append]
      have e : (!decide (V.int c = V.int 0)) = decide (c ≠ 0) := by
        by_cases h : c = 0
        · simp [h]
        · simp [h]
      rw [e]; rfl
    rintro H2 ⟨hD, sm⟩
    rw [List.length_map, List.take_length] at hD
    refine ⟨D, _, rfl, sq_lst hD, true, ?_, iteF ?_⟩
    · obtain ⟨c, hc, h0⟩ := ok.nz
      have : ((r.am.map (fun c : Int => decide (c ≠ 0))).any id) = true := by
        rw [List.any_eq_true]
        exact ⟨_, List.mem_map_of_mem hc, decide_eq_true h0⟩
      rw [this]
    refine ⟨_, rfl, .bl r.eq, .type "bool", "bool", true, rfl, .base (.base (.bl _)), by rfl, true, rfl, iteT ?_⟩
    exact ⟨_, rfl, r.bd, rfl, q _ (s1.trans sm)⟩
abbrev s_is_either : Stmt := topS 19
abbrev n_is_either : List Str := ["value", "size", "item"]
theorem sc_is_either : FnScope n_is_either ["value", "size"] (defScope s_is_either) := ⟨rfl, rfl, rfl, by decide +kernel, rfl, by decide +kernel, by decide +kernel⟩
def spEither : Sp := fun vs H Q _ => ∃ (p : Addr) (k v : V) (n : Nat) (rs : List Row), vs = [.ref p, .int n] ∧ H p = some (.tup [k, v]) ∧ RsV H v rs ∧ EiOk n rs ∧ ∀ H', Same H H' → Q (.bl true) H'
theorem ok_is_either {f : Addr} {fd : FuncData} (F : Fun K "_is_either" "_is_either" s_is_either f fd) (T : Txt K mg w aW aT es nn) (c_is_sum : Cal P w K mg base 4 "_is_sum" spSum []) : FnOk P w K mg base CX0 5 f fd ["value", "size"] spEither := by
  refine F.ok sc_is_either (fun vs H Q E h => ?_) (fun cdv A outer s H vs Q E hr h => ?_)
  · obtain ⟨p, k, v, n, rs, rfl, _⟩ := h
    rfl
  · obtain ⟨p, k, v, n, rs, rfl, hp, ⟨pr, us, rfl, hpr, al⟩, ok, q⟩ := h
    have l := al.len
    refine ⟨_, (pss_cons (ps_if (PW.pt (pw_or (pt_cmpR op_ne (pe_callB call_len_seq (by rfl) T.b_len (by decide +kernel) (pa_cons (pv 0) pa_nil)) pe_int (nomark _)) (pw_or (pt_not (pt_val (pe_callB call_isE (by rfl) T.b_isinstance (by decide +kernel) (pa_cons (pe_ix ix_tup (pv 0) pe_int (fun _ _ => rfl)) (pa_cons (pe_bltn (v := .ty "tuple") (by rfl) T.b_tuple boot_tuple rfl) pa_nil))))) (pw_or1 (pt_not (pt_chain op_le op_le pe_int (pe_callB call_len_seq (by rfl) T.b_len (by decide +kernel) (pa_cons (pe_ix ix_tup (pv 0) pe_int (fun _ _ => rfl)) pa_nil)) (pe_gc (by rfl) T.c_MOST_SUMS))))))) (pss_one (ps_ret pe_bl)) pss_nil)
      (pss_cons (ps_for PassesOwn.never rfl (pi_tup (pe_ix ix_tup (pv 0) pe_int (fun _ _ => rfl))) (pg_name (i := 2) sc_is_either.nd rfl (.inl rfl)) (pss_cons (ps_if (PW.pt (pw_or (pt_not (pt_val (pe_callB call_isE (by rfl) T.b_isinstance (by decide +kernel) (pa_cons (pv 2) (pa_cons (pe_bltn (v := .ty "tuple") (by rfl) T.b_tuple boot_tuple rfl) pa_nil))))) (pw_or (pt_not (pt_truth (pv 2) (by intro _; rfl))) (pw_or1 (pt_not (pt_val (pe_callB call_isE (by rfl) T.b_isinstance (by decide +kernel) (pa_cons (pe_ix ix_tup (pv 2) pe_int (fun _ _ => rfl)) (pa_cons (pe_bltn (v := .ty "str") (by rfl) T.b_str boot_str rfl) pa_nil))))))))) (pss_one (ps_ret pe_bl)) pss_nil)
        (pss_one (ps_if (PW.pt (pw_or (pt_not (pt_val (pe_c c_is_sum hr (by decide) (by rfl) (pa_cons (pv 2) (pa_cons (pv 1) pa_nil))))) (pw_or1 (pt_val (pe_ix ix_tup (pv 2) pe_int (fun _ _ => rfl)))))) (pss_one (ps_ret pe_bl)) pss_nil))))
      (pss_one (ps_ret pe_bl)))), ?_⟩
    have l2 := ok.two
    have l6 := ok.six
    refine ⟨_, rfl, p, _, rfl, .inr (sq_tup hp), rfl, _, rfl, iteF ?_⟩
    refine ⟨_, rfl, p, _, 1, _, rfl, rfl, sq_tup hp, rfl, .ref pr, .type "tuple", "tuple", true, rfl, .base (.base (.tup hpr)), by rfl, true, rfl, iteF ?_⟩
    refine ⟨_, rfl, p, _, 1, _, rfl, rfl, sq_tup hp, rfl, pr, _, rfl, .inr (sq_tup hpr), _, _, rfl, rfl, _, rfl, ?_⟩
    refine ite2 (fun _ => ?_) (fun z => absurd (decide_eq_true (show (2 : Int) ≤ (us.length : Nat) by omega)) z)
    refine ⟨_, _, rfl, rfl, _, rfl, ?_⟩
    rw [decide_eq_true (show ((us.length : Nat) : Int) ≤ 6 by omega)]
    refine iteF ?_
    refine ⟨_, rfl, p, _, 1, _, rfl, rfl, sq_tup hp, rfl, pr, rfl, ⟨_, sq_tup hpr⟩, for_tup (K := K) (a := pr) (xs := us) (fun i σ H' => ∃ y2, σ = [some (.ref p), some (.int (n : Nat)), y2] ∧ Same H H')
      ⟨none, rfl, Same.refl _⟩ (fun i σ H' _ h => by obtain ⟨_, _, s⟩ := h; exact sq_tup (s _ _ hpr)) (fun i v σ H2 hv h => ?_) (fun σ H2 h => ?_)⟩
    · obtain ⟨y2, rfl, s2⟩ := h
      obtain ⟨r, hr', rv⟩ := al.at_ hv
      obtain ⟨okr, eqf⟩ := ok.ok r (List.mem_of_getElem? hr')
      have rv2 := rv.same s2
      obtain ⟨pr2, qa, rfl, hp2, hqa⟩ := id rv2
      refine ⟨_, rfl, .ref pr2, .type "tuple", "tuple", true, rfl, .base (.base (.tup hp2)), by rfl, true, rfl, iteF ?_⟩
      refine ⟨_, rfl, true, .inr (.inl ⟨_, sq_tup hp2, rfl⟩), iteF ?_⟩
      refine ⟨_, rfl, pr2, _, 0, _, rfl, rfl, sq_tup hp2, rfl, .str "sum", .type "str", "str", true, rfl, .base (.base (.str "sum")), by rfl, true, rfl, iteF ?_⟩
      refine ⟨_, rfl, _, rfl, .ref pr2, n, r, rfl, rv2, okr, ok.n100, fun H3 s3 => ⟨true, rfl, iteF ?_⟩⟩
      refine ⟨_, rfl, pr2, _, 2, .bl r.eq, rfl, rfl, sq_tup (s3 _ _ hp2), rfl, r.eq, rfl, ?_⟩
      rw [eqf]
      exact iteF ⟨_, rfl, s2.trans s3⟩
    · obtain ⟨y2, rfl, s2⟩ := h
      exact q _ s2
/-- a test of the dict by its word -/
structure Tst (P : Program) (w : World) (K : PySem.W.Frag) (mg : Str → Option Value) (base : Heap) (aT : Addr) (fS fE : Addr) : Prop where
  s : Held P w K mg base 5 fS spSum
  e : Held P w K mg base 5 fE spEither
  is : KDct K w aT "sum" (.ref fS)
  ie : KDct K w aT "either" (.ref fE)
  nd : fE ≠ fS
def tests (fS fE : Addr) (f : Addr) : Option Sp := if f = fS then some spSum else if f = fE then some spEither else none
abbrev s_is_wish : Stmt := topS 12
abbrev n_is_wish : List Str := ["value", "size", "test"]
theorem sc_is_wish : FnScope n_is_wish ["value", "size"] (defScope s_is_wish) := ⟨rfl, rfl, rfl, by decide +kernel, rfl, by decide +kernel, by decide +kernel⟩
def spWish : Sp := fun vs H Q _ => ∃ (v : V) (n : Nat) (x : Wish), vs = [v, .int n] ∧ WV H v x ∧ WishOk n x ∧ ∀ H', Same H H' → Q (.bl true) H'
theorem ok_is_wish {f fS fE : Addr} {fd : FuncData} (F : Fun K "is_wish" "is_wish" s_is_wish f fd) (T : Txt K mg w aW aT es nn) (S : Tst P w K mg base aT fS fE) : FnOk P w K mg base CX0 6 f fd ["value", "size"] spWish := by
  have ts : tests fS fE fS = some spSum := if_pos rfl
  have te : tests fS fE fE = some spEither := by unfold tests; rw [if_neg S.nd, if_pos rfl]
  have AH : ∀ f sp, tests fS fE f = some sp → Held P w K mg base 5 f sp := fun f sp h => by
    by_cases e1 : f = fS
    · subst e1; rw [ts] at h; cases h; exact S.s
    by_cases e2 : f = fE
    · subst e2; rw [te] at h; cases h; exact S.e
    unfold tests at h
    rw [if_neg e1, if_neg e2] at h
    cases h
  refine F.ok sc_is_wish (fun vs H Q E h => ?_) (fun cdv A outer s H vs Q E hr h => ?_)
  · obtain ⟨v, n, x, rfl, _⟩ := h
    rfl
  · obtain ⟨v, n, x, rfl, wv, ok, q⟩ := h
    refine ⟨_, (pss_cons (ps_if (PW.pt (pw_or (pt_not (pt_val (pe_callB call_isE (by rfl) T.b_isinstance (by decide +kernel) (pa_cons (pv 0) (pa_cons (pe_bltn (v := .ty "tuple") (by rfl) T.b_tuple boot_tuple rfl) pa_nil))))) (pw_or (pt_not (pt_truth (pv 0) (by intro _; rfl))) (pw_or1 (pt_not (pt_val (pe_callB call_isE (by rfl) T.b_isinstance (by decide +kernel) (pa_cons (pe_ix ix_tup (pv 0) pe_int (fun _ _ => rfl)) (pa_cons (pe_bltn (v := .ty "str") (by rfl) T.b_str boot_str rfl) pa_nil))))))))) (pss_one (ps_ret pe_bl)) pss_nil)
      (pss_cons (ps_if (pt_cmpR (op_notIn_kd T.kd) (pe_ix ix_tup (pv 0) pe_int (fun _ _ => rfl)) (pe_gc (by rfl) T.c_WISH_TESTS) (by rfl)) (pss_one (ps_ret pe_bl)) pss_nil)
      (pss_cons (ps_set (i := 2) sc_is_wish.nd rfl (.inl rfl) (pe_ix ix_kdict (pe_gc (by rfl) T.c_WISH_TESTS) (pe_ix ix_tup (pv 0) pe_int (fun _ _ => rfl)) (fun _ _ => rfl)))
      (pss_one (ps_ret (pe_callA (i := 2) AH hr rfl (.inl rfl) (pa_cons (pv 0) (pa_cons (pv 1) pa_nil)))))))), ?_⟩
    obtain ⟨p, wd, rs, f1, rfl, hp, hd, rest⟩ : ∃ p wd rs f1, v = .ref p ∧ H p = some (.tup (.str wd :: rs)) ∧ KDct K w aT wd (.ref f1) ∧ (∃ sp, tests fS fE f1 = some sp ∧ sp [.ref p, .int n] H Q (fun _ _ _ => False)) := by
      cases x with
      | sum r =>
        obtain ⟨p, qa, rfl, hp, hq⟩ := wv
        exact ⟨p, "sum", _, fS, rfl, hp, S.is, _, ts, .ref p, n, r, rfl, ⟨p, qa, rfl, hp, hq⟩, ok.1, ok.2, fun H' s' => q _ s'⟩
      | either rs =>
        obtain ⟨p, u, rfl, hp, lv⟩ := wv
        exact ⟨p, "either", _, fE, rfl, hp, S.ie, _, te, p, _, u, n, rs, rfl, hp, lv, ok, fun H' s' => q _ s'⟩
    obtain ⟨sp, hsp, run⟩ := rest
    refine ⟨_, rfl, .ref p, .type "tuple", "tuple", true, rfl, .base (.base (.tup hp)), by rfl, true, rfl, iteF ?_⟩
    obtain ⟨es', n', u', hk1, hk2, hk3, hk4⟩ := id hd
    refine ⟨_, rfl, true, .inr (.inl ⟨_, sq_tup hp, rfl⟩), iteF ?_⟩
    refine ⟨_, rfl, p, _, 0, _, rfl, rfl, sq_tup hp, atI_nat (j := 0) rfl, .str wd, .type "str", "str", true, rfl, .base (.base (.str wd)), by rfl, true, rfl, iteF ?_⟩
    refine ⟨_, rfl, p, _, 0, _, rfl, rfl, sq_tup hp, atI_nat (j := 0) rfl, wd, some u', rfl, rfl, hk3, _, rfl, iteF ?_⟩
    refine ⟨_, rfl, p, _, 0, _, rfl, rfl, sq_tup hp, atI_nat (j := 0) rfl, aT, wd, _, rfl, rfl, hd, ?_⟩
    exact ⟨f1, sp, rfl, hsp, _, rfl, _, rfl, run⟩
end
end M66

namespace M66
open PySem PySem.Spec PyProof.Rows L2 SX Own Gd
open C8 (Cal pe_c pe_gc pe_mk Mak pss_cut)
/-! ### tasks -/
structure NmOk (s : Str) : Prop where
  l1 : 1 ≤ s.length
  l6 : s.length ≤ 6
  let_ : ∀ c ∈ s.cps.toList, c ∈ ("abcdefghijklmnopqrstuvwxyz" : Str).cps.toList
  w : inV (.str s) (wordsL.map V.str) = false
abbrev Unk := Str × Int × Int
def UV (H : Hp) (v : V) (u : Unk) : Prop := ∃ p, v = .ref p ∧ H p = some (.tup [.str u.1, .int u.2.1, .int u.2.2])
inductive UVs (H : Hp) : List V → List Unk → Prop
  | nil : UVs H [] []
  | cons {v : V} {vs : List V} {a : Unk} {as : List Unk} : UV H v a → UVs H vs as → UVs H (v :: vs) (a :: as)
theorem UV.same {H H' : Hp} {v : V} {u : Unk} (h : UV H v u) (s : Same H H') : UV H' v u := by
  obtain ⟨p, e, f⟩ := h
  exact ⟨p, e, s _ _ f⟩
theorem UVs.same {H H' : Hp} (s : Same H H') : ∀ {vs : List V} {as : List Unk}, UVs H vs as → UVs H' vs as
  | _, _, .nil => .nil
  | _, _, .cons h t => .cons (h.same s) (t.same s)
theorem UVs.len {H : Hp} : ∀ {vs : List V} {as : List Unk}, UVs H vs as → vs.length = as.length
  | _, _, .nil => rfl
  | _, _, .cons _ t => congrArg (· + 1) t.len
theorem UVs.at_ {H : Hp} : ∀ {vs : List V} {as : List Unk} {i : Nat} {v : V}, UVs H vs as → vs[i]? = some v → ∃ a, as[i]? = some a ∧ UV H v a
  | _, _, 0, _, .cons h t, e => by
    cases e
    exact ⟨_, rfl, h⟩
  | _, _, i + 1, _, .cons h t, e => by
    obtain ⟨r, e1, e2⟩ := t.at_ (i := i) (by simpa using e)
    exact ⟨r, by simpa using e1, e2⟩
structure UnkOk (us : List Unk) : Prop where
  ne : 1 ≤ us.length
  few : us.length ≤ 100
  nm : ∀ u ∈ us, NmOk u.1
  or_ : ∀ u ∈ us, u.2.1 ≤ u.2.2
  inc : ∀ i u v, us[i]? = some u → us[i + 1]? = some v → u.1.cps.toList < v.1.cps.toList
inductive WVs (H : Hp) : List V → List Wish → Prop
  | nil : WVs H [] []
  | cons {v : V} {vs : List V} {a : Wish} {as : List Wish} : WV H v a → WVs H vs as → WVs H (v :: vs) (a :: as)
theorem WVs.same {H H' : Hp} (s : Same H H') : ∀ {vs : List V} {as : List Wish}, WVs H vs as → WVs H' vs as
  | _, _, .nil => .nil
  | _, _, .cons h t => .cons (h.same s) (t.same s)
theorem WVs.len {H : Hp} : ∀ {vs : List V} {as : List Wish}, WVs H vs as → vs.length = as.length
  | _, _, .nil => rfl
  | _, _, .cons _ t => congrArg (· + 1) t.len
theorem WVs.at_ {H : Hp} : ∀ {vs : List V} {as : List Wish} {i : Nat} {v : V}, WVs H vs as → vs[i]? = some v → ∃ a, as[i]? = some a ∧ WV H v a
  | _, _, 0, _, .cons h t, e => by
    cases e
    exact ⟨_, rfl, h⟩
  | _, _, i + 1, _, .cons h t, e => by
    obtain ⟨r, e1, e2⟩ := t.at_ (i := i) (by simpa using e)
    exact ⟨r, by simpa using e1, e2⟩
section
variable {P : Program} {w : World} {K : PySem.W.Frag} {mg : Str → Option Value} {base : Heap} {aW aT : Addr} {es : Array DictEntry} {nn : Nat}
abbrev s_is_name : Stmt := topS 28
abbrev n_is_name : List Str := ["value", "sign"]
theorem sc_is_name : FnScope n_is_name ["value"] (defScope s_is_name) := ⟨rfl, rfl, rfl, by decide +kernel, rfl, by decide +kernel, by decide +kernel⟩
def spName : Sp := fun vs H Q _ => ∃ s : Str, vs = [.str s] ∧ NmOk s ∧ ∀ H', Same H H' → Q (.bl true) H'
theorem ok_is_name {f : Addr} {fd : FuncData} (F : Fun K "is_name" "is_name" s_is_name f fd) (T : Txt K mg w aW aT es nn) : FnOk P w K mg base CX0 1 f fd ["value"] spName := by
  refine F.ok sc_is_name (fun vs H Q E h => ?_) (fun cdv A outer s0 H vs Q E hr h => ?_)
  · obtain ⟨s, rfl, _⟩ := h
    rfl
  · obtain ⟨s, rfl, ok, q⟩ := h
    have l1 := ok.l1
    have l6 := ok.l6
    refine ⟨_, (pss_cons (ps_if (PW.pt (pw_or (pt_not (pt_val (pe_callB call_isE (by rfl) T.b_isinstance (by decide +kernel) (pa_cons (pv 0) (pa_cons (pe_bltn (v := .ty "str") (by rfl) T.b_str boot_str rfl) pa_nil))))) (pw_or (pt_not (pt_chain op_le op_le pe_int (pe_callB call_len_str (by rfl) T.b_len (by decide +kernel) (pa_cons (pv 0) pa_nil)) (pe_gc (by rfl) T.c_LONGEST_NAME))) (pw_or1 (pt_cmpR op_in_seq (pv 0) (pe_gc (by rfl) T.c_WORDS) (by rfl)))))) (pss_one (ps_ret pe_bl)) pss_nil)
      (pss_one (ps_ret (pe_callB (cr_all rfl) (by rfl) T.b_all (by decide +kernel) (pa_cons (pe_lc (own := [("sign", 1)]) rfl sc_is_name.nd (pi_str (pv 0)) (blkOk_by (N := n_is_name) (sc := defScope s_is_name) (by decide +kernel)) (fun _ _ _ _ _ => (pg_name (i := 1) sc_is_name.nd rfl (.inl rfl))) (fun _ _ _ _ _ => pts_nil) (fun _ _ _ _ _ => (pe_cmpR op_in_sign (pv 1) (pe_gc (by rfl) T.c_LETTERS) (by rfl)))) pa_nil))))), ?_⟩
    refine ⟨_, rfl, .str s, .type "str", "str", true, rfl, .base (.base (.str s)), by rfl, true, rfl, iteF ?_⟩
    refine ⟨_, rfl, s, rfl, Nat.le_trans l6 (by rw [sizeLine_eq]; decide), _, _, rfl, rfl, _, rfl, ite2 (fun _ => ?_) (fun h => absurd (decide_eq_true (show (1 : Int) ≤ (s.length : Int) by omega)) h)⟩
    refine ⟨_, _, rfl, rfl, _, rfl, ite2 (fun h => ?_) (fun _ => ?_)⟩
    · exact absurd h (by simp; omega)
    refine ⟨_, rfl, aW, _, rfl, .inr (T.qW H), rfl, by decide, _, rfl, ite2 (fun h => ?_) (fun _ => ?_)⟩
    · have h : inV (.str s) (wordsL.map V.str) = true := h
      rw [ok.w] at h
      cases h
    refine ⟨_, rfl, s, rfl, fun D nD => ?_⟩
    refine walk_str (x := s) (fun i H' => H' D = some (.lst ((List.replicate i true).map V.bl)) ∧ Same H H') ⟨upd_same, same_upd nD⟩ ?_ ?_
    · rintro i c H2 hc ⟨hD, sm⟩
      have li : i < s.cps.size := (Array.getElem?_eq_some_iff.mp hc).1
      have sl : s.cps.size = s.length := rfl
      have mc : c ∈ s.cps.toList := Array.mem_toList_iff.mpr (Array.mem_of_getElem? hc)
      refine ⟨rfl, _, rfl, c, _, rfl, rfl, _, hD, (by rw [List.length_map, List.length_replicate]; exact small1000 (by omega)), ?_, same_at sm nD⟩
      rw [upd_same, rep_app, decide_eq_true (ok.let_ c mc)]
    · rintro H2 ⟨hD, sm⟩
      refine ⟨D, _, rfl, sq_lst hD, ?_⟩
      rw [reps]
      exact q _ sm
abbrev s_is_pair : Stmt := topS 29
abbrev n_is_pair : List Str := ["value"]
theorem sc_is_pair : FnScope n_is_pair ["value"] (defScope s_is_pair) := ⟨rfl, rfl, rfl, by decide +kernel, rfl, by decide +kernel, by decide +kernel⟩
def spPair : Sp := fun vs H Q _ => ∃ (p : Addr) (a b : Int), vs = [.ref p] ∧ H p = some (.tup [.int a, .int b]) ∧ a ≤ b ∧ Q (.bl true) H
theorem ok_is_pair {f : Addr} {fd : FuncData} (F : Fun K "is_pair" "is_pair" s_is_pair f fd) (T : Txt K mg w aW aT es nn) (c_is_whole : Cal P w K mg base 1 "is_whole" spWhole []) : FnOk P w K mg base CX0 2 f fd ["value"] spPair := by
  refine F.ok sc_is_pair (fun vs H Q E h => ?_) (fun cdv A outer s0 H vs Q E hr h => ?_)
  · obtain ⟨p, a, b, rfl, _⟩ := h
    rfl
  · obtain ⟨p, a, b, rfl, hp, ab, q⟩ := h
    refine ⟨_, (pss_cons (ps_if (PW.pt (pw_or (pt_not (pt_val (pe_callB call_isE (by rfl) T.b_isinstance (by decide +kernel) (pa_cons (pv 0) (pa_cons (pe_bltn (v := .ty "tuple") (by rfl) T.b_tuple boot_tuple rfl) pa_nil))))) (pw_or1 (pt_cmpR op_ne (pe_callB call_len_seq (by rfl) T.b_len (by decide +kernel) (pa_cons (pv 0) pa_nil)) pe_int (nomark _))))) (pss_one (ps_ret pe_bl)) pss_nil)
      (pss_one (ps_ret (pe_and (pe_c c_is_whole hr (by decide) (by rfl) (pa_cons (pe_ix ix_tup (pv 0) pe_int (fun _ _ => rfl)) pa_nil)) (pe_and (pe_c c_is_whole hr (by decide) (by rfl) (pa_cons (pe_ix ix_tup (pv 0) pe_int (fun _ _ => rfl)) pa_nil)) (pe_one (pe_cmpR op_le (pe_ix ix_tup (pv 0) pe_int (fun _ _ => rfl)) (pe_ix ix_tup (pv 0) pe_int (fun _ _ => rfl)) (nomark _)))))))), ?_⟩
    refine ⟨_, rfl, .ref p, .type "tuple", "tuple", true, rfl, .base (.base (.tup hp)), by rfl, true, rfl, iteF ?_⟩
    refine ⟨_, rfl, p, _, rfl, .inr (sq_tup hp), rfl, _, rfl, iteF ?_⟩
    refine ⟨_, rfl, p, _, 0, _, rfl, rfl, sq_tup hp, rfl, a, rfl, true, rfl, iteT ?_⟩
    refine ⟨_, rfl, p, _, 1, _, rfl, rfl, sq_tup hp, rfl, b, rfl, true, rfl, iteT ?_⟩
    refine ⟨_, rfl, p, _, 0, _, rfl, rfl, sq_tup hp, rfl, _, rfl, p, _, 1, _, rfl, rfl, sq_tup hp, rfl, _, _, rfl, rfl, ?_⟩
    rw [show (fun i j : Int => V.bl (decide (i ≤ j))) a b = V.bl true from congrArg V.bl (decide_eq_true ab)]
    exact q
abbrev s_is_unknown : Stmt := topS 30
abbrev n_is_unknown : List Str := ["value"]
theorem sc_is_unknown : FnScope n_is_unknown ["value"] (defScope s_is_unknown) := ⟨rfl, rfl, rfl, by decide +kernel, rfl, by decide +kernel, by decide +kernel⟩
def spUnknown : Sp := fun vs H Q _ => ∃ (v : V) (u : Unk), vs = [v] ∧ UV H v u ∧ NmOk u.1 ∧ u.2.1 ≤ u.2.2 ∧ ∀ H', Same H H' → Q (.bl true) H'
theorem ok_is_unknown {f : Addr} {fd : FuncData} (F : Fun K "_is_unknown" "_is_unknown" s_is_unknown f fd) (T : Txt K mg w aW aT es nn) (c_is_name : Cal P w K mg base 1 "is_name" spName []) (c_is_pair : Cal P w K mg base 2 "is_pair" spPair []) : FnOk P w K mg base CX0 3 f fd ["value"] spUnknown := by
  refine F.ok sc_is_unknown (fun vs H Q E h => ?_) (fun cdv A outer s0 H vs Q E hr h => ?_)
  · obtain ⟨v, u, rfl, _⟩ := h
    rfl
  · obtain ⟨v, ⟨s, lo, hi⟩, rfl, ⟨p, rfl, hp⟩, ok, lh, q⟩ := h
    refine ⟨_, (pss_cons (ps_if (PW.pt (pw_or (pt_not (pt_val (pe_callB call_isE (by rfl) T.b_isinstance (by decide +kernel) (pa_cons (pv 0) (pa_cons (pe_bltn (v := .ty "tuple") (by rfl) T.b_tuple boot_tuple rfl) pa_nil))))) (pw_or1 (pt_cmpR op_ne (pe_callB call_len_seq (by rfl) T.b_len (by decide +kernel) (pa_cons (pv 0) pa_nil)) pe_int (nomark _))))) (pss_one (ps_ret pe_bl)) pss_nil)
      (pss_one (ps_ret (pe_and (pe_c c_is_name hr (by decide) (by rfl) (pa_cons (pe_ix ix_tup (pv 0) pe_int (fun _ _ => rfl)) pa_nil)) (pe_one (pe_c c_is_pair hr (by decide) (by rfl) (pa_cons (pe_slice sl_tupA (pv 0) (po_some pe_int) po_none) pa_nil))))))), ?_⟩
    refine ⟨_, rfl, .ref p, .type "tuple", "tuple", true, rfl, .base (.base (.tup hp)), by rfl, true, rfl, iteF ?_⟩
    refine ⟨_, rfl, p, _, rfl, .inr (sq_tup hp), rfl, _, rfl, iteF ?_⟩
    refine ⟨_, rfl, p, _, 0, _, rfl, rfl, sq_tup hp, rfl, s, rfl, ok, fun H1 s1 => ⟨true, rfl, iteT ?_⟩⟩
    refine ⟨_, rfl, _, rfl, p, _, rfl, sq_tup (s1 _ _ hp), (fun z => absurd (show (1 : Nat) = 0 from z.1) (by decide)), fun _ y ny => ?_⟩
    refine ⟨y, lo, hi, rfl, upd_same, lh, q _ (s1.trans (same_upd ny))⟩
abbrev s_check_unknowns : Stmt := topS 31
abbrev n_check_unknowns : List Str := ["value", "at", "item"]
theorem sc_check_unknowns : FnScope n_check_unknowns ["value"] (defScope s_check_unknowns) := ⟨rfl, rfl, rfl, by decide +kernel, rfl, by decide +kernel, by decide +kernel⟩
def spChU : Sp := fun vs H Q _ => ∃ (p : Addr) (us : List V) (ul : List Unk), vs = [.ref p] ∧ H p = some (.tup us) ∧ UVs H us ul ∧ UnkOk ul ∧ ∀ H', Same H H' → Q .non H'
theorem ok_check_unknowns {f : Addr} {fd : FuncData} (F : Fun K "_check_unknowns" "_check_unknowns" s_check_unknowns f fd) (T : Txt K mg w aW aT es nn) (c_is_unknown : Cal P w K mg base 3 "_is_unknown" spUnknown []) : FnOk P w K mg base CX0 4 f fd ["value"] spChU := by
  refine F.ok sc_check_unknowns (fun vs H Q E h => ?_) (fun cdv A outer s0 H vs Q E hr h => ?_)
  · obtain ⟨p, us, ul, rfl, _⟩ := h
    rfl
  · obtain ⟨p, us, ul, rfl, hp, uv, ok, q⟩ := h
    have ne := ok.ne
    have lu := uv.len
    refine ⟨_, (pss_cons (ps_if (PW.pt (pw_or (pt_not (pt_val (pe_callB call_isE (by rfl) T.b_isinstance (by decide +kernel) (pa_cons (pv 0) (pa_cons (pe_bltn (v := .ty "tuple") (by rfl) T.b_tuple boot_tuple rfl) pa_nil))))) (pw_or1 (pt_not (pt_truth (pv 0) (by intro _; rfl)))))) (pss_one ps_dead) pss_nil)
      (pss_one (ps_for PassesOwn.never rfl (pi_enT (by rfl) T.b_enumerate (pa_cons (pv 0) pa_nil)) (pg_tup rfl (pgs_cons (pg_name (i := 1) sc_check_unknowns.nd rfl (.inl rfl)) (pgs_cons (pg_name (i := 2) sc_check_unknowns.nd rfl (.inl rfl)) pgs_nil))) (pss_one (ps_if (PW.pt (pw_or (pt_not (pt_val (pe_c c_is_unknown hr (by decide) (by rfl) (pa_cons (pv 2) pa_nil)))) (pw_or1 (PW.pt (pw_and (pt_cmpR op_gt (pv 1) pe_int (nomark _)) (pw_and1 (pt_cmpR op_le_str (pe_ix ix_tup (pv 2) pe_int (fun _ _ => rfl)) (pe_ix ix_tup (pe_ix ix_tup (pv 0) (pe_op op_sub (pv 1) pe_int) (fun _ _ => rfl)) pe_int (fun _ _ => rfl)) (nomark _)))))))) (pss_one ps_dead) pss_nil))))), ?_⟩
    refine ⟨_, rfl, .ref p, .type "tuple", "tuple", true, rfl, .base (.base (.tup hp)), by rfl, true, rfl, iteF ?_⟩
    refine ⟨_, rfl, true, .inr (.inl ⟨us, sq_tup hp, by cases us with | nil => simp at lu; omega | cons a b => rfl⟩), iteF ?_⟩
    refine ⟨_, rfl, p, us, rfl, sq_tup hp, for_enT (K := K) (a := p) (xs := us) (fun i σ H' => ∃ (y1 y2 : Option V), σ = [some (.ref p), y1, y2] ∧ Same H H')
      ⟨none, none, rfl, Same.refl _⟩ (fun i σ H' h => ?_) (fun i x T' σ H' hx h nT => ?_) (fun σ H' h => ?_)⟩
    · obtain ⟨y1, y2, rfl, sm⟩ := h
      exact sq_tup (sm _ _ hp)
    · obtain ⟨y1, y2, rfl, sm⟩ := h
      obtain ⟨u, hu, pu, rfl, hpu⟩ := uv.at_ hx
      have mu := List.mem_of_getElem? hu
      have sT := same_at (o := .tup [.int (i : Nat), .ref pu]) sm (sm.free nT)
      refine ⟨T', _, rfl, sq_tup upd_same, rfl, _, _, rfl, _, _, rfl, rfl, ?_⟩
      refine ⟨_, rfl, .ref pu, u, rfl, ⟨pu, rfl, sT _ _ hpu⟩, ok.nm u mu, ok.or_ u mu, fun H2 s2 => ⟨true, rfl, iteF ?_⟩⟩
      have s02 := sT.trans s2
      refine ⟨_, rfl, _, _, rfl, rfl, _, rfl, ite2 (fun h1 => ?_) (fun h1 => iteF ⟨_, _, rfl, s02⟩)⟩
      have h1 : (0 : Int) < (i : Int) := of_decide_eq_true h1
      obtain ⟨i', rfl⟩ : ∃ i', i = i' + 1 := ⟨i - 1, by omega⟩
      have hi' : i' < ul.length := by have := (List.getElem?_eq_some_iff.mp hu).1; omega
      have hx' : us[i']? = some us[i'] := List.getElem?_eq_getElem (by omega)
      obtain ⟨u', hu', pu', ex', hpu'⟩ := uv.at_ hx'
      have lt := ok.inc i' u' u hu' hu
      rw [ex'] at hx'
      refine ⟨_, rfl, pu, _, 0, _, rfl, rfl, sq_tup (s02 _ _ hpu), rfl, _, rfl, _, rfl, _, _, rfl, rfl, p, _, _, .ref pu', rfl, rfl, sq_tup (s02 _ _ hp), ?_, pu', _, 0, _, rfl, rfl, sq_tup (s02 _ _ hpu'), rfl, _, _, rfl, rfl, _, rfl, ?_⟩
      · rw [show (((i' + 1 : Nat) : Int) - 1) = (i' : Int) by omega]
        exact atI_nat hx'
      · rw [decide_eq_true lt]
        exact iteF ⟨_, _, rfl, s02⟩
    · obtain ⟨y1, y2, rfl, sm⟩ := h
      exact q _ sm
abbrev s_check_wishes : Stmt := topS 32
abbrev n_check_wishes : List Str := ["value", "size", "at", "item"]
theorem sc_check_wishes : FnScope n_check_wishes ["value", "size"] (defScope s_check_wishes) := ⟨rfl, rfl, rfl, by decide +kernel, rfl, by decide +kernel, by decide +kernel⟩
def spChW : Sp := fun vs H Q _ => ∃ (p : Addr) (us : List V) (n : Nat) (wl : List Wish), vs = [.ref p, .int n] ∧ H p = some (.tup us) ∧ WVs H us wl ∧ (∀ x ∈ wl, WishOk n x) ∧ ∀ H', Same H H' → Q .non H'
theorem ok_check_wishes {f : Addr} {fd : FuncData} (F : Fun K "_check_wishes" "_check_wishes" s_check_wishes f fd) (T : Txt K mg w aW aT es nn) (c_is_wish : Cal P w K mg base 6 "is_wish" spWish []) : FnOk P w K mg base CX0 7 f fd ["value", "size"] spChW := by
  refine F.ok sc_check_wishes (fun vs H Q E h => ?_) (fun cdv A outer s0 H vs Q E hr h => ?_)
  · obtain ⟨p, us, n, wl, rfl, _⟩ := h
    rfl
  · obtain ⟨p, us, n, wl, rfl, hp, wv, ok, q⟩ := h
    refine ⟨_, (pss_cons (ps_if (pt_not (pt_val (pe_callB call_isE (by rfl) T.b_isinstance (by decide +kernel) (pa_cons (pv 0) (pa_cons (pe_bltn (v := .ty "tuple") (by rfl) T.b_tuple boot_tuple rfl) pa_nil))))) (pss_one ps_dead) pss_nil)
      (pss_one (ps_for PassesOwn.never rfl (pi_enT (by rfl) T.b_enumerate (pa_cons (pv 0) pa_nil)) (pg_tup rfl (pgs_cons (pg_name (i := 2) sc_check_wishes.nd rfl (.inl rfl)) (pgs_cons (pg_name (i := 3) sc_check_wishes.nd rfl (.inl rfl)) pgs_nil))) (pss_one (ps_if (pt_not (pt_val (pe_c c_is_wish hr (by decide) (by rfl) (pa_cons (pv 3) (pa_cons (pv 1) pa_nil))))) (pss_one ps_dead) pss_nil))))), ?_⟩
    refine ⟨_, rfl, .ref p, .type "tuple", "tuple", true, rfl, .base (.base (.tup hp)), by rfl, true, rfl, iteF ?_⟩
    refine ⟨_, rfl, p, us, rfl, sq_tup hp, for_enT (K := K) (a := p) (xs := us) (fun i σ H' => ∃ (y1 y2 : Option V), σ = [some (.ref p), some (.int (n : Int)), y1, y2] ∧ Same H H')
      ⟨none, none, rfl, Same.refl _⟩ (fun i σ H' h => ?_) (fun i x T' σ H' hx h nT => ?_) (fun σ H' h => ?_)⟩
    · obtain ⟨y1, y2, rfl, sm⟩ := h
      exact sq_tup (sm _ _ hp)
    · obtain ⟨y1, y2, rfl, sm⟩ := h
      obtain ⟨u, hu, wu⟩ := wv.at_ hx
      have mu := List.mem_of_getElem? hu
      have sT := same_at (o := .tup [.int (i : Nat), x]) sm (sm.free nT)
      refine ⟨T', _, rfl, sq_tup upd_same, rfl, _, _, rfl, _, _, rfl, rfl, ?_⟩
      exact ⟨_, rfl, _, rfl, x, n, u, rfl, wu.same sT, ok u mu, fun H2 s2 => ⟨true, rfl, iteF ⟨_, _, rfl, sT.trans s2⟩⟩⟩
    · obtain ⟨y1, y2, rfl, sm⟩ := h
      exact q _ sm
abbrev s_check_goal : Stmt := topS 33
abbrev n_check_goal : List Str := ["value", "size", "at", "item"]
theorem sc_check_goal : FnScope n_check_goal ["value", "size"] (defScope s_check_goal) := ⟨rfl, rfl, rfl, by decide +kernel, rfl, by decide +kernel, by decide +kernel⟩
def spChG : Sp := fun vs H Q _ => ∃ (v : V) (a : List Int), vs = [v, .int (a.length : Nat)] ∧ LV H v a ∧ ∀ H', Same H H' → Q .non H'
theorem ok_check_goal {f : Addr} {fd : FuncData} (F : Fun K "_check_goal" "_check_goal" s_check_goal f fd) (T : Txt K mg w aW aT es nn) (c_is_whole : Cal P w K mg base 1 "is_whole" spWhole []) : FnOk P w K mg base CX0 2 f fd ["value", "size"] spChG := by
  refine F.ok sc_check_goal (fun vs H Q E h => ?_) (fun cdv A outer s0 H vs Q E hr h => ?_)
  · obtain ⟨v, a, rfl, _⟩ := h
    rfl
  · obtain ⟨v, a, rfl, ⟨p, rfl, hp⟩, q⟩ := h
    refine ⟨_, (pss_cons (ps_if (PW.pt (pw_or (pt_not (pt_val (pe_callB call_isE (by rfl) T.b_isinstance (by decide +kernel) (pa_cons (pv 0) (pa_cons (pe_bltn (v := .ty "tuple") (by rfl) T.b_tuple boot_tuple rfl) pa_nil))))) (pw_or1 (pt_cmpR op_ne (pe_callB call_len_seq (by rfl) T.b_len (by decide +kernel) (pa_cons (pv 0) pa_nil)) (pv 1) (nomark _))))) (pss_one ps_dead) pss_nil)
      (pss_one (ps_for PassesOwn.never rfl (pi_enT (by rfl) T.b_enumerate (pa_cons (pv 0) pa_nil)) (pg_tup rfl (pgs_cons (pg_name (i := 2) sc_check_goal.nd rfl (.inl rfl)) (pgs_cons (pg_name (i := 3) sc_check_goal.nd rfl (.inl rfl)) pgs_nil))) (pss_one (ps_if (pt_not (pt_val (pe_c c_is_whole hr (by decide) (by rfl) (pa_cons (pv 3) pa_nil)))) (pss_one ps_dead) pss_nil))))), ?_⟩
    refine ⟨_, rfl, .ref p, .type "tuple", "tuple", true, rfl, .base (.base (.tup hp)), by rfl, true, rfl, iteF ?_⟩
    refine ⟨_, rfl, p, _, rfl, .inr (sq_tup hp), _, rfl, rfl, _, rfl, ite2 (fun h => absurd h (by simp)) (fun _ => ?_)⟩
    refine ⟨_, rfl, p, _, rfl, sq_tup hp, for_enT (K := K) (a := p) (xs := a.map V.int) (fun i σ H' => ∃ (y1 y2 : Option V), σ = [some (.ref p), some (.int (a.length : Nat)), y1, y2] ∧ Same H H')
      ⟨none, none, rfl, Same.refl _⟩ (fun i σ H' h => ?_) (fun i x T' σ H' hx h nT => ?_) (fun σ H' h => ?_)⟩
    · obtain ⟨y1, y2, rfl, sm⟩ := h
      exact sq_tup (sm _ _ hp)
    · obtain ⟨y1, y2, rfl, sm⟩ := h
      obtain ⟨c, hc, rfl⟩ := at_map hx
      have sT := same_at (o := .tup [.int (i : Nat), .int c]) sm (sm.free nT)
      refine ⟨T', _, rfl, sq_tup upd_same, rfl, _, _, rfl, _, _, rfl, rfl, ?_⟩
      exact ⟨_, rfl, c, rfl, true, rfl, iteF ⟨_, _, rfl, sT⟩⟩
    · obtain ⟨y1, y2, rfl, sm⟩ := h
      exact q _ sm
abbrev s_Task_init : Stmt := inS 27 0
abbrev n_Task_init : List Str := ["self", "unknowns", "wishes", "goal"]
theorem sc_Task_init : FnScope n_Task_init ["self", "unknowns", "wishes", "goal"] (defScope s_Task_init) := ⟨rfl, rfl, rfl, by decide +kernel, rfl, by decide +kernel, by decide +kernel⟩
/-- a task at x -/
def TaskV (C : Addr) (H : Hp) (v : V) (ul : List Unk) (wl : List Wish) (goal : List Int) : Prop := ∃ x dx pu pw pg us ws, v = .ref x ∧ H x = some (.ins C dx [("unknowns", .ref pu), ("wishes", .ref pw), ("goal", .ref pg)]) ∧ H pu = some (.tup us) ∧ UVs H us ul ∧ H pw = some (.tup ws) ∧ WVs H ws wl ∧ H pg = some (tI goal)
theorem put_ne {f g : Str} {v x : V} {r : List (Str × V)} (h : ¬ g = f) : putF f v ((g, x) :: r) = (g, x) :: putF f v r := if_neg h
theorem puts2 (u w : V) : putF "wishes" w (putF "unknowns" u []) = ([("unknowns", u), ("wishes", w)] : List (Str × V)) := put_ne (by decide)
theorem puts3 (u w g : V) : putF "goal" g (putF "wishes" w (putF "unknowns" u [])) = ([("unknowns", u), ("wishes", w), ("goal", g)] : List (Str × V)) := by
  rw [puts2, put_ne (by decide), put_ne (by decide)]; rfl
def spTask (C : Addr) : Sp := fun vs H Q _ => ∃ (x dx pu pw pg : Addr) (us ws : List V) (ul : List Unk) (wl : List Wish) (goal : List Int), vs = [.ref x, .ref pu, .ref pw, .ref pg] ∧ H x = some (.ins C dx []) ∧ H pu = some (.tup us) ∧ UVs H us ul ∧ H pw = some (.tup ws) ∧ WVs H ws wl ∧ H pg = some (tI goal) ∧
  UnkOk ul ∧ (∀ z ∈ wl, WishOk ul.length z) ∧ goal.length = ul.length ∧ ∀ H1, Same H H1 → Q .non (upd H1 x (.ins C dx [("unknowns", .ref pu), ("wishes", .ref pw), ("goal", .ref pg)]))
theorem ok_Task_init {f C : Addr} {fd : FuncData} (F : Fun K "__init__" "Task.__init__" s_Task_init f fd) (cl : Cls K C) (na : NoAttr K C "unknowns" ∧ NoAttr K C "wishes" ∧ NoAttr K C "goal") (T : Txt K mg w aW aT es nn) (c_check_unknowns : Cal P w K mg base 4 "_check_unknowns" spChU []) (c_check_wishes : Cal P w K mg base 7 "_check_wishes" spChW []) (c_check_goal : Cal P w K mg base 2 "_check_goal" spChG []) :
    FnOk P w K mg base CX0 8 f fd ["self", "unknowns", "wishes", "goal"] (spTask C) := by
  refine F.ok sc_Task_init (fun vs H Q E h => ?_) (fun cdv A outer s0 H vs Q E hr h => ?_)
  · obtain ⟨x, dx, pu, pw, pg, us, ws, ul, wl, goal, rfl, _⟩ := h
    rfl
  · obtain ⟨x, dx, pu, pw, pg, us, ws, ul, wl, goal, rfl, hx, hpu, uv, hpw, wv, hpg, uo, wo, lg, q⟩ := h
    refine ⟨_, (pss_cons (ps_expr (pe_c c_check_unknowns hr (by decide) (by rfl) (pa_cons (pv 1) pa_nil)))
      (pss_cons (ps_expr (pe_c c_check_wishes hr (by decide) (by rfl) (pa_cons (pv 2) (pa_cons (pe_callB call_len_seq (by rfl) T.b_len (by decide +kernel) (pa_cons (pv 1) pa_nil)) pa_nil))))
      (pss_cons (ps_expr (pe_c c_check_goal hr (by decide) (by rfl) (pa_cons (pv 3) (pa_cons (pe_callB call_len_seq (by rfl) T.b_len (by decide +kernel) (pa_cons (pv 1) pa_nil)) pa_nil))))
      (pss_cons (ps_fld (pv 0) (pv 1) (by rfl))
      (pss_cons (ps_fld (pv 0) (pv 2) (by rfl))
      (pss_one (ps_fld (pv 0) (pv 3) (by rfl)))))))), ?_⟩
    refine ⟨_, rfl, pu, us, ul, rfl, hpu, uv, uo, fun H1 s1 => ?_⟩
    refine ⟨_, rfl, _, rfl, pu, _, rfl, .inr (sq_tup (s1 _ _ hpu)), pw, ws, ul.length, wl, by rw [uv.len]; rfl, s1 _ _ hpw, wv.same s1, wo, fun H2 s2 => ?_⟩
    have s12 := s1.trans s2
    refine ⟨_, rfl, _, rfl, pu, _, rfl, .inr (sq_tup (s12 _ _ hpu)), .ref pg, goal, by rw [uv.len, lg]; rfl, ⟨pg, rfl, s12 _ _ hpg⟩, fun H3 s3 => ?_⟩
    have s13 := s12.trans s3
    refine ⟨_, rfl, _, rfl, x, C, dx, [], rfl, s13 _ _ hx, cl, na.1, by decide, ?_⟩
    refine ⟨_, rfl, _, rfl, x, C, dx, _, rfl, upd_same, cl, na.2.1, by show 1 < 1000; decide, ?_⟩
    refine ⟨_, rfl, _, rfl, x, C, dx, _, rfl, upd_same, cl, na.2.2, ?_, ?_⟩
    · rw [puts2]; show 2 < 1000; decide
    rw [puts3, upd_upd, upd_upd]
    exact q _ s13
end
end M66

namespace Own
open PySem PySem.Spec PyProof.Rows L2 SX
/-! ### the store of numbers that the draws eat -/
structure HpL (H : Hp) (h q : Addr) (cs : List Int) (st : Int) : Prop where
  ne : h ≠ q
  hh : H h = some (.lst [.ref q, .int st])
  hq : H q = some (.lst (cs.map V.int))
  nn : ∀ c ∈ cs, 0 ≤ c
  ln : cs.length ≤ 60
  s0 : 0 ≤ st
  s1 : st < 2147483647
def HpAt (H : Hp) (h q : Addr) : Prop := ∃ cs st, HpL H h q cs st
def Kpt (h q : Addr) (H H' : Hp) : Prop := ∀ b o, H b = some o → b ≠ h → b ≠ q → H' b = some o
theorem Kpt.refl (h q : Addr) (H : Hp) : Kpt h q H H := fun _ _ e _ _ => e
theorem Kpt.trans {h q : Addr} {H H1 H2 : Hp} (a : Kpt h q H H1) (b : Kpt h q H1 H2) : Kpt h q H H2 := fun c o e n1 n2 => b c o (a c o e n1 n2) n1 n2
theorem Kpt.of_same {h q : Addr} {H H' : Hp} (s : Same H H') : Kpt h q H H' := fun b o e _ _ => s b o e
theorem Kpt.at_q {h q : Addr} {H : Hp} {o : HO} : Kpt h q H (upd H q o) := fun b x e _ n => by rw [upd_ne n]; exact e
theorem Kpt.at_h {h q : Addr} {H : Hp} {o : HO} : Kpt h q H (upd H h o) := fun b x e n _ => by rw [upd_ne n]; exact e
theorem HpL.same {H H' : Hp} {h q : Addr} {cs : List Int} {st : Int} (a : HpL H h q cs st) (s : Same H H') : HpL H' h q cs st := ⟨a.ne, s _ _ a.hh, s _ _ a.hq, a.nn, a.ln, a.s0, a.s1⟩
theorem HpAt.same {H H' : Hp} {h q : Addr} (a : HpAt H h q) (s : Same H H') : HpAt H' h q := by
  obtain ⟨cs, st, a⟩ := a
  exact ⟨cs, st, a.same s⟩
theorem HpL.put {H : Hp} {h q : Addr} {cs : List Int} {st : Int} (a : HpL H h q cs st) (ds : List Int) (nn : ∀ c ∈ ds, 0 ≤ c) (ln : ds.length ≤ 60) : HpL (upd H q (.lst (ds.map V.int))) h q ds st :=
  ⟨a.ne, by rw [upd_ne a.ne]; exact a.hh, upd_same, nn, ln, a.s0, a.s1⟩
theorem HpAt.fresh {H : Hp} {h q p : Addr} (a : HpAt H h q) (np : H p = none) : p ≠ h ∧ p ≠ q := by
  obtain ⟨cs, st, a⟩ := a
  exact ⟨(ne_of_none a.hh np).symm, (ne_of_none a.hq np).symm⟩
theorem dp_ints {K : PySem.W.Frag} {H : Hp} : ∀ cs : List Int, DpAll K H (cs.map V.int) (cs.map PyData.int)
  | [] => .nil
  | c :: r => .cons (.int c) (dp_ints r)
theorem shp_ints (ns : List Int) : SeqAt.shaped (.list (ns.map PyData.int)) = true := PySem.W.ke_shaped_ints ns
theorem Kpt.free {h q D : Addr} {H H1 : Hp} (k : Kpt h q H H1) (n : H1 D = none) (n1 : D ≠ h) (n2 : D ≠ q) : H D = none := by
  cases e : H D with
  | none => rfl
  | some o => rw [k _ _ e n1 n2] at n; cases n
theorem Kpt.at_new {h q D : Addr} {H H1 : Hp} {o : HO} (k : Kpt h q H H1) (n : H D = none) : Kpt h q H (upd H1 D o) := fun b x e n1 n2 => by
  rw [upd_ne (ne_of_none e n)]; exact k _ _ e n1 n2
theorem HpAt.upd {H : Hp} {h q D : Addr} {o : HO} (a : HpAt H h q) (n1 : D ≠ h) (n2 : D ≠ q) : HpAt (upd H D o) h q := by
  obtain ⟨cs, st, a⟩ := a
  exact ⟨cs, st, a.ne, by rw [upd_ne n1.symm]; exact a.hh, by rw [upd_ne n2.symm]; exact a.hq, a.nn, a.ln, a.s0, a.s1⟩
theorem cut60 (ns : List Int) : cutV (ns.map V.int) none (some 60) = (ns.take 60).map V.int := by
  unfold cutV
  rw [HT.sIx_none, show HT.sIx (ns.map V.int).length (ns.map V.int).length (some 60) = min 60 (ns.map V.int).length from HT.sIx_nat _ _ 60, List.drop_zero, Nat.sub_zero, List.map_take]
  by_cases h : 60 ≤ (ns.map V.int).length
  · rw [Nat.min_eq_left h]
  · rw [Nat.min_eq_right (by omega), List.take_length, List.take_of_length_le (by omega)]
theorem get_int {ns : List Int} {i : Nat} {x : V} (h : (ns.map V.int)[i]? = some x) : ∃ z, ns[i]? = some z ∧ x = .int z := by
  rw [List.getElem?_map] at h
  cases e : ns[i]? with
  | none => rw [e] at h; cases h
  | some z => rw [e] at h; exact ⟨z, rfl, (Option.some.inj h).symm⟩
end Own

namespace M66
open PySem PySem.Spec PyProof.Rows L2 SX Own Gd
open C8 (Cal pe_c pe_gc pe_mk Mak pss_cut)
/-! ### tuples stay while lists change -/
def TK (H H' : Hp) : Prop := ∀ a xs, H a = some (.tup xs) → H' a = some (.tup xs)
theorem TK.of {H H' : Hp} (s : Same H H') : TK H H' := fun a xs e => s _ _ e
theorem TK.put {H : Hp} {l : Addr} {xs : List V} {o : HO} (e : H l = some (.lst xs)) : TK H (upd H l o) := fun a ys z => by
  rw [upd_ne (fun h => by rw [h, e] at z; cases z)]; exact z
theorem TK.trans {H H1 H2 : Hp} (x : TK H H1) (y : TK H1 H2) : TK H H2 := fun a xs e => y _ _ (x _ _ e)
theorem TK.kp {H H' : Hp} {h q : Addr} (k : Kpt h q H H') (a : HpAt H h q) : TK H H' := fun b xs e => by
  obtain ⟨cs, st, a⟩ := a
  exact k _ _ e (fun z => by rw [z, a.hh] at e; cases e) (fun z => by rw [z, a.hq] at e; cases e)
theorem LV.tk {H H' : Hp} {v : V} {a : List Int} (h : LV H v a) (s : TK H H') : LV H' v a := by
  obtain ⟨p, e, hp⟩ := h
  exact ⟨p, e, s _ _ hp⟩
theorem UVs.tk {H H' : Hp} (s : TK H H') : ∀ {vs : List V} {as : List Unk}, UVs H vs as → UVs H' vs as
  | _, _, .nil => .nil
  | _, _, .cons ⟨p, e, h⟩ t => .cons ⟨p, e, s _ _ h⟩ (t.tk s)
theorem RV.tk {H H' : Hp} {v : V} {r : Row} (h : RV H v r) (s : TK H H') : RV H' v r := by
  obtain ⟨p, q, e, f, g⟩ := h
  exact ⟨p, q, e, s _ _ f, s _ _ g⟩
theorem RsV.tk {H H' : Hp} {v : V} {rl : List Row} (h : RsV H v rl) (s : TK H H') : RsV H' v rl := by
  obtain ⟨p, us, e, f, g⟩ := h
  exact ⟨p, us, e, s _ _ f, g.mono fun v x k => k.tk s⟩
theorem WV.tk {H H' : Hp} {v : V} {x : Wish} (h : WV H v x) (s : TK H H') : WV H' v x := by
  cases x with
  | sum r => exact RV.tk h s
  | either a =>
    obtain ⟨p, u, e, f, g⟩ := h
    exact ⟨p, u, e, s _ _ f, g.tk s⟩
theorem WVs.tk {H H' : Hp} (s : TK H H') : ∀ {vs : List V} {as : List Wish}, WVs H vs as → WVs H' vs as
  | _, _, .nil => .nil
  | _, _, .cons h t => .cons (h.tk s) (t.tk s)
theorem walk_enT {K : PySem.W.Frag} {a : Addr} {xs : List V} : Walk (ItE K a) xs.length (fun H => SqT K H a xs) (YPair (fun i => some (.int (i : Nat))) (fun i => xs[i]?)) := by
  refine ⟨fun i _ hi q => ⟨xs, xs[i], q, by simp [hi]⟩, fun _ q => ⟨xs, q, rfl⟩, fun i H v H' _ q y => ?_⟩
  obtain ⟨T, x, h1, h2, h3, h4⟩ := y
  exact ⟨T, .int (i : Nat), x, h1, h2, h3, rfl, h4 xs q⟩
structure CC (K : PySem.W.Frag) (C : Addr) : Prop where
  cl : Cls K C
  nu : NoAttr K C "unknowns"
  nw : NoAttr K C "wishes"
  ng : NoAttr K C "goal"
theorem lk_u (a b c : V) : List.lookup ("unknowns" : Str) ([("unknowns", a), ("wishes", b), ("goal", c)] : List (Str × V)) = some a := by rfl
theorem lk_w (a b c : V) : List.lookup ("wishes" : Str) ([("unknowns", a), ("wishes", b), ("goal", c)] : List (Str × V)) = some b := by rfl
theorem lk_g (a b c : V) : List.lookup ("goal" : Str) ([("unknowns", a), ("wishes", b), ("goal", c)] : List (Str × V)) = some c := by rfl
theorem ixN_nat {n j : Nat} (h : j < n) : ixN n (j : Int) = some j := by
  unfold ixN
  rw [if_pos (by omega), if_pos (by omega)]; simp
theorem repf (n : Nat) (v : V) : (List.replicate n [v]).flatten = List.replicate n v := by
  induction n with
  | zero => rfl
  | succ n ih => rw [List.replicate_succ, List.flatten_cons, ih, List.replicate_succ]; rfl
def tL (a : List Int) : HO := .lst (a.map V.int)
abbrev Fr := Int × Int
/-- a pair of integers -/
def FV (H : Hp) (v : V) (f : Fr) : Prop := ∃ p, v = .ref p ∧ H p = some (.tup [.int f.1, .int f.2])
theorem FV.tk {H H' : Hp} {v : V} {f : Fr} (h : FV H v f) (s : TK H H') : FV H' v f := by
  obtain ⟨p, e, g⟩ := h
  exact ⟨p, e, s _ _ g⟩
theorem FV.same {H H' : Hp} {v : V} {f : Fr} (h : FV H v f) (s : Same H H') : FV H' v f := h.tk (.of s)
/-- a box: pairs in a tuple -/
def SV (H : Hp) (v : V) (st : List Fr) : Prop := ∃ p us, v = .ref p ∧ H p = some (.tup us) ∧ All2 (FV H) us st
theorem SV.tk {H H' : Hp} {v : V} {st : List Fr} (h : SV H v st) (s : TK H H') : SV H' v st := by
  obtain ⟨p, us, e, f, g⟩ := h
  exact ⟨p, us, e, s _ _ f, g.mono fun v x k => k.tk s⟩
theorem SV.same {H H' : Hp} {v : V} {st : List Fr} (h : SV H v st) (s : Same H H') : SV H' v st := h.tk (.of s)
theorem int_of {v : V} {ns : List Int} (h : v ∈ ns.map V.int) : ∃ z ∈ ns, v = .int z := by
  obtain ⟨z, hz, rfl⟩ := List.mem_map.mp h
  exact ⟨z, hz, rfl⟩
theorem Kpt_tv {C : Addr} {H H' : Hp} {h q : Addr} {v : V} {ul : List Unk} {wl : List Wish} {goal : List Int} (t : TaskV C H v ul wl goal) (k : Kpt h q H H') (a : HpAt H h q) : TaskV C H' v ul wl goal := by
  obtain ⟨x, dx, pu, pw, pg, us, ws, e, hx, hpu, uv, hpw, wv, hpg⟩ := t
  have tk := TK.kp k a
  obtain ⟨cs, st, a⟩ := a
  exact ⟨x, dx, pu, pw, pg, us, ws, e, k _ _ hx (fun z => by rw [z, a.hh] at hx; cases hx) (fun z => by rw [z, a.hq] at hx; cases hx), tk _ _ hpu, uv.tk tk, tk _ _ hpw, wv.tk tk, tk _ _ hpg⟩
theorem same_tv {C : Addr} {H H' : Hp} {v : V} {ul : List Unk} {wl : List Wish} {goal : List Int} (t : TaskV C H v ul wl goal) (k : Same H H') : TaskV C H' v ul wl goal := by
  obtain ⟨x, dx, pu, pw, pg, us, ws, e, hx, hpu, uv, hpw, wv, hpg⟩ := t
  exact ⟨x, dx, pu, pw, pg, us, ws, e, k _ _ hx, k _ _ hpu, uv.same k, k _ _ hpw, wv.same k, k _ _ hpg⟩
theorem set_mapI (a : List Int) (i : Nat) (c : Int) : (a.map V.int).set i (.int c) = (a.set i c).map V.int := (List.map_set ..).symm
theorem zip_at {α β : Type} {a : List α} {b : List β} {i : Nat} {x : α} {y : β} (h1 : a[i]? = some x) (h2 : b[i]? = some y) : (a.zip b)[i]? = some (x, y) := List.getElem?_zip_eq_some.mpr ⟨h1, h2⟩
/-! ### lists of drawn integers -/
structure LI (R : Int → Prop) (H0 H' : Hp) (h q D : Addr) (i : Nat) (ks : List Int) : Prop where
  e : H' D = some (tL ks)
  l : ks.length = i
  r : ∀ c ∈ ks, R c
  a : HpAt H' h q
  k : Kpt h q H0 H'
theorem LI.nil {R : Int → Prop} {H0 : Hp} {h q D : Addr} (a : HpAt H0 h q) (nD : H0 D = none) : LI R H0 (upd H0 D (.lst [])) h q D 0 [] := by
  obtain ⟨f1, f2⟩ := a.fresh nD
  exact ⟨upd_same, rfl, by simp, a.upd f1 f2, .of_same (same_upd nD)⟩
theorem LI.go {R : Int → Prop} {H0 H1 H2 : Hp} {h q D : Addr} {i : Nat} {ks : List Int} (g : LI R H0 H1 h q D i ks) (nD : H0 D = none) (D1 : D ≠ h) (D2 : D ≠ q) (a2 : HpAt H2 h q) (kp : Kpt h q H1 H2) (hi : i < 100) {c : Int} (hc : R c) :
    ∃ acc, H2 D = some (.lst acc) ∧ acc.length < sizeLine ∧ ∃ ks, LI R H0 (upd H2 D (.lst (acc ++ [V.int c]))) h q D (i + 1) ks := by
  have l := g.l
  refine ⟨_, kp _ _ g.e D1 D2, small1000 (by rw [List.length_map]; omega), ks ++ [c], ?_, by rw [List.length_append, l]; rfl, fun x hx => ?_, a2.upd D1 D2, (g.k.trans kp).at_new nD⟩
  · rw [upd_same]
    show some (HO.lst _) = some (HO.lst ((ks ++ [c]).map V.int))
    rw [List.map_append]; rfl
  · rcases List.mem_append.mp hx with z | z
    · exact g.r x z
    · rw [List.mem_singleton.mp z]; exact hc
section
variable {P : Program} {w : World} {K : PySem.W.Frag} {mg : Str → Option Value} {base : Heap} {aW aT : Addr} {es : Array DictEntry} {nn : Nat}
abbrev s_Ldraw : Stmt := topS 47
abbrev n_Ldraw : List Str := ["heap", "many", "rest"]
theorem sc_Ldraw : FnScope n_Ldraw ["heap", "many"] (defScope s_Ldraw) := ⟨rfl, rfl, rfl, by decide +kernel, rfl, by decide +kernel, by decide +kernel⟩
def spDraw : Sp := fun vs H Q _ => ∃ (h q : Addr) (n : Int), vs = [.ref h, .int n] ∧ HpAt H h q ∧ 0 < n ∧ n < 1073741824 ∧ ∀ d H', 0 ≤ d → d < n → HpAt H' h q → Kpt h q H H' → Q (.int d) H'
theorem ok_draw {f : Addr} {fd : FuncData} (F : Fun K "_law_draw" "_law_draw" s_Ldraw f fd) (T : Txt K mg w aW aT es nn) : FnOk P w K mg base CX0 1 f fd ["heap", "many"] spDraw := by
  refine F.ok sc_Ldraw (fun vs H Q E h => ?_) (fun cdv A outer s H vs Q E hr h => ?_)
  · obtain ⟨h, q, n, rfl, _⟩ := h
    rfl
  · obtain ⟨h, q, n, rfl, ⟨cs0, st0, a0⟩, hn, hn2, k⟩ := h
    refine ⟨_, (pss_cut (ps_while PassesOwn.never (PW.pt (pw_and (pt_cmpR (op_neD hr.units) (pe_ix ix_list (pv 0) pe_int (fun _ _ => rfl)) (pe_lst pa_nil) (nomark _)) (pw_and1 (pt_cmpR op_eq (pe_ix ix_list (pe_ix ix_list (pv 0) pe_int (fun _ _ => rfl)) (pe_un un_neg pe_int) (fun _ _ => rfl)) pe_int (nomark _))))) (pss_one (ps_expr (pe_bm0 PySem.F.plainAttrs_list PySem.F.slot_list_pop PySem.F.type_list_pop mt_pop (pe_ix ix_list (pv 0) pe_int (fun _ _ => rfl))))))
      (pss_cons (ps_if (pt_cmpR (op_neD hr.units) (pe_ix ix_list (pv 0) pe_int (fun _ _ => rfl)) (pe_lst pa_nil) (nomark _)) (pss_cons (ps_set (i := 2) sc_Ldraw.nd rfl (.inl rfl) (pe_bm0 PySem.F.plainAttrs_list PySem.F.slot_list_pop PySem.F.type_list_pop mt_pop (pe_ix ix_list (pv 0) pe_int (fun _ _ => rfl))))
        (pss_cons (ps_expr (pe_bm PySem.F.plainAttrs_list PySem.F.slot_list_append PySem.F.type_list_append mt_append (pe_ix ix_list (pv 0) pe_int (fun _ _ => rfl)) (pa_cons (pe_op op_fdiv (pv 2) (pv 1)) pa_nil)))
        (pss_one (ps_ret (pe_op op_mod (pe_callTy call_int1 (by rfl) T.b_int (by decide +kernel) (pa_cons (pv 2) pa_nil)) (pv 1)))))) pss_nil)
      (pss_cons (ps_asg (pe_op op_mod (pe_callTy call_int1 (by rfl) T.b_int (by decide +kernel) (pa_cons (pe_op op_add (pe_op op_mul (pe_ix ix_list (pv 0) pe_int (fun _ _ => rfl)) pe_int) pe_int) pa_nil)) pe_int) (pg_sub (pv 0) pe_int set_list))
      (pss_one (ps_ret (pe_op op_mod (pe_callTy call_int1 (by rfl) T.b_int (by decide +kernel) (pa_cons (pe_op op_fdiv (pe_ix ix_list (pv 0) pe_int (fun _ _ => rfl)) pe_int) pa_nil)) (pv 1))))))), ?_⟩
    refine ⟨fun σ H' => ∃ cs st y, σ = [some (.ref h), some (.int n), y] ∧ HpL H' h q cs st ∧ Kpt h q H H', ?_, fun σ H1 hM => ?_⟩
    · refine ⟨fun m σ H' => ∃ cs st y, σ = [some (.ref h), some (.int n), y] ∧ HpL H' h q cs st ∧ Kpt h q H H' ∧ m = cs.length, ⟨_, cs0, st0, none, rfl, a0, Kpt.refl _ _ _, rfl⟩, fun m σ H1 hW => ?_⟩
      obtain ⟨cs, st, y, rfl, a, kp, rfl⟩ := hW
      refine ⟨_, rfl, h, _, 0, .ref q, rfl, rfl, sq_lst a.hh, rfl, Nat.zero_le _, fun p np => ?_⟩
      have sm : Same H1 (upd H1 p (.lst [])) := same_upd np
      have a2 := a.same sm
      refine ⟨_, _, .lst (sq_lst a2.hq) (dp_ints cs), .lst (sq_lst upd_same) .nil, shp_ints cs, shp_ints [], _, rfl, ?_⟩
      rcases List.eq_nil_or_concat cs with rfl | ⟨ds, c, rfl⟩
      · refine iteF ?_
        exact ⟨[], st, y, rfl, a2, kp.trans (.of_same sm)⟩
      · have e : PyData.eqv (.list ((ds.concat c).map PyData.int)) (.list []) = false := by
          rw [List.concat_eq_append, List.map_append, PyData.eqv]
          cases ds with
          | nil => rfl
          | cons d r => rfl
        rw [e]
        refine iteT ?_
        have el : (ds.concat c).map V.int = ds.map V.int ++ [.int c] := by rw [List.concat_eq_append, List.map_append]; rfl
        refine ⟨_, rfl, h, _, 0, .ref q, rfl, rfl, sq_lst a2.hh, rfl, _, rfl, q, _, -1, .int c, rfl, rfl, sq_lst a2.hq, (by rw [el]; exact atI_last _ _), rfl, _, rfl, ite2 (fun hz => ?_) (fun hz => ?_)⟩
        · refine ⟨fun σ' H' => ∃ m', m' < (ds.concat c).length ∧ _, fun _ _ z => z, ?_⟩
          refine ⟨_, rfl, h, _, 0, .ref q, rfl, rfl, sq_lst a2.hh, rfl, .inl ⟨rfl, _, sq_lst a2.hq⟩, q, _, .int c, rfl, rfl, a2.hq, ?_, ds.length, ?_, ds, st, y, rfl, ?_, ?_, rfl⟩
          · rw [el, List.length_append, List.length_singleton, Nat.add_sub_cancel, List.getElem?_append_right (Nat.le_refl _), Nat.sub_self]; rfl
          · rw [List.length_concat]; omega
          · rw [el, List.dropLast_concat]
            refine a2.put ds (fun x hx => a.nn x (by rw [List.concat_eq_append]; exact List.mem_append_left _ hx)) ?_
            have := a.ln; rw [List.length_concat] at this; omega
          · exact (kp.trans (.of_same sm)).trans .at_q
        · exact ⟨ds.concat c, st, y, rfl, a2, kp.trans (.of_same sm)⟩
    · obtain ⟨cs, st, y, rfl, a, kp⟩ := hM
      refine ⟨_, rfl, h, _, 0, .ref q, rfl, rfl, sq_lst a.hh, rfl, Nat.zero_le _, fun p np => ?_⟩
      have sm : Same H1 (upd H1 p (.lst [])) := same_upd np
      have a2 := a.same sm
      refine ⟨_, _, .lst (sq_lst a2.hq) (dp_ints cs), .lst (sq_lst upd_same) .nil, shp_ints cs, shp_ints [], _, rfl, ?_⟩
      have kp2 := kp.trans (.of_same (h := h) (q := q) sm)
      rcases List.eq_nil_or_concat cs with rfl | ⟨ds, c, rfl⟩
      · refine iteF ?_
        have b1 : (0 : Int) ≤ (st * 69621 + 37) % 2147483647 := Int.emod_nonneg _ (by decide)
        have b2 : (st * 69621 + 37) % 2147483647 < 2147483647 := Int.emod_lt_of_pos _ (by decide)
        refine ⟨_, rfl, h, _, 1, .int st, rfl, rfl, sq_lst a2.hh, rfl, _, _, rfl, rfl, .inr ⟨by decide, by decide⟩, _, _, rfl, rfl, .inl ⟨_, rfl, _, _, rfl, rfl, (by show (0 : Int) < 2147483647; decide), _, rfl, h, _, 1, 1, rfl, rfl, a2.hh, rfl, ?_⟩⟩
        have a3 : HpL (upd (upd H1 p (.lst [])) h (.lst [.ref q, .int ((st * 69621 + 37) % 2147483647)])) h q [] ((st * 69621 + 37) % 2147483647) :=
          ⟨a.ne, upd_same, by rw [upd_ne a.ne.symm]; exact a2.hq, a.nn, a.ln, b1, b2⟩
        refine ⟨_, rfl, h, _, 1, _, rfl, rfl, sq_lst a3.hh, rfl, _, _, rfl, rfl, ⟨by decide, by decide⟩, .inl ⟨_, rfl, _, rfl, _, _, rfl, rfl, hn, ?_⟩⟩
        exact k _ _ (Int.emod_nonneg _ (by omega)) (Int.emod_lt_of_pos _ hn) ⟨_, _, a3⟩ (kp2.trans .at_h)
      · have e : PyData.eqv (.list ((ds.concat c).map PyData.int)) (.list []) = false := by
          rw [List.concat_eq_append, List.map_append, PyData.eqv]
          cases ds with
          | nil => rfl
          | cons d r => rfl
        rw [e]
        refine iteT ?_
        have el : (ds.concat c).map V.int = ds.map V.int ++ [.int c] := by rw [List.concat_eq_append, List.map_append]; rfl
        have c0 : 0 ≤ c := a.nn c (by rw [List.concat_eq_append]; simp)
        have dl : ds.length + 1 ≤ 60 := by have := a.ln; rwa [List.length_concat] at this
        refine ⟨_, rfl, h, _, 0, .ref q, rfl, rfl, sq_lst a2.hh, rfl, .inl ⟨rfl, _, sq_lst a2.hq⟩, q, _, .int c, rfl, rfl, a2.hq, ?_, ?_⟩
        · rw [el, List.length_append, List.length_singleton, Nat.add_sub_cancel, List.getElem?_append_right (Nat.le_refl _), Nat.sub_self]; rfl
        · rw [el, List.dropLast_concat]
          have a3 := a2.put ds (fun x hx => a.nn x (by rw [List.concat_eq_append]; exact List.mem_append_left _ hx)) (by omega)
          refine ⟨_, rfl, h, _, 0, .ref q, rfl, rfl, sq_lst a3.hh, rfl, .inl ⟨rfl, _, sq_lst a3.hq⟩, _, rfl, _, rfl, _, _, rfl, rfl, ⟨hn, hn2⟩, q, _, _, rfl, rfl, a3.hq, ?_, ?_⟩
          · rw [List.length_map]; exact small1000 (by omega)
          · have a4 := a3.put (ds ++ [c / n]) (fun x hx => by
              rcases List.mem_append.mp hx with z | z
              · exact a3.nn x z
              · rw [List.mem_singleton.mp z]; exact Int.ediv_nonneg c0 (by omega)) (by rw [List.length_append]; exact dl)
            rw [List.map_append] at a4
            refine ⟨_, rfl, .inl ⟨_, rfl, _, rfl, _, _, rfl, rfl, hn, ?_⟩⟩
            exact k _ _ (Int.emod_nonneg _ (by omega)) (Int.emod_lt_of_pos _ hn) ⟨_, _, a4⟩ ((kp2.trans .at_q).trans .at_q)
abbrev s_Lheap : Stmt := topS 46
abbrev n_Lheap : List Str := ["script", "cell", "cells", "stir"]
theorem sc_Lheap : FnScope n_Lheap ["script"] (defScope s_Lheap) := ⟨rfl, rfl, rfl, by decide +kernel, rfl, by decide +kernel, by decide +kernel⟩
def spHeap (K : PySem.W.Frag) : Sp := fun vs H Q _ => ∃ (a : Addr) (ns : List Int), vs = [.ref a] ∧ SqL K H a (ns.map V.int) ∧ ns.length ≤ 63 ∧ ∀ H' h q, Same H H' → H h = none → H q = none → HpAt H' h q → Q (.ref h) H'
theorem ok_heap {f : Addr} {fd : FuncData} (F : Fun K "_law_heap" "_law_heap" s_Lheap f fd) (T : Txt K mg w aW aT es nn) : FnOk P w K mg base CX0 1 f fd ["script"] (spHeap K) := by
  refine F.ok sc_Lheap (fun vs H Q E h => ?_) (fun cdv A outer s H vs Q E hr h => ?_)
  · obtain ⟨a, ns, rfl, _⟩ := h
    rfl
  · obtain ⟨a, ns, rfl, hS, hlen, k⟩ := h
    refine ⟨_, (pss_cons (ps_par (i := 2) (j := 3) (by rfl) sc_Lheap.nd rfl rfl (by decide) rfl rfl (pa_cons (pe_lc (own := [("cell", 1)]) rfl sc_Lheap.nd (pi_list (pe_slice sl_list (pv 0) po_none (po_some pe_int))) (blkOk_by (N := n_Lheap) (sc := defScope s_Lheap) (by decide +kernel)) (fun _ _ _ _ _ => (pg_name (i := 1) sc_Lheap.nd rfl (.inl rfl))) (fun _ _ _ _ _ => pts_nil) (fun _ _ _ _ _ => (pe_op op_add (pe_op op_mul pe_int (pe_callB call_abs (by rfl) T.b_abs (by decide +kernel) (pa_cons (pv 1) pa_nil))) (pe_callTy call_int1 (by rfl) T.b_int (by decide +kernel) (pa_cons (pe_cmpR op_lt (pv 1) pe_int (nomark _)) pa_nil))))) (pa_cons pe_int pa_nil)) (by rfl))
      (pss_cons (ps_for PassesOwn.never rfl (pi_list (pv 2)) (pg_name (i := 1) sc_Lheap.nd rfl (.inl rfl)) (pss_one (ps_set (i := 3) sc_Lheap.nd rfl (.inl rfl) (pe_op op_mod (pe_callTy call_int1 (by rfl) T.b_int (by decide +kernel) (pa_cons (pe_op op_add (pe_op op_add (pe_op op_mul (pv 3) pe_int) (pe_op op_mod (pe_callTy call_int1 (by rfl) T.b_int (by decide +kernel) (pa_cons (pv 1) pa_nil)) pe_int)) pe_int) pa_nil)) pe_int))))
      (pss_one (ps_ret (pe_lst (pa_cons (pe_revL (pe_lc (own := [("cell", 1)]) rfl sc_Lheap.nd (pi_list (pv 2)) (blkOk_by (N := n_Lheap) (sc := defScope s_Lheap) (by decide +kernel)) (fun _ _ _ _ _ => (pg_name (i := 1) sc_Lheap.nd rfl (.inl rfl))) (fun _ _ _ _ _ => (pts_one (pt_cmpR op_ge (pv 1) (pe_op op_pow pe_int pe_int) (nomark _)))) (fun _ _ _ _ _ => (pv 1)))) (pa_cons (pv 3) pa_nil))))))), ?_⟩
    refine ⟨_, rfl, _, rfl, a, _, rfl, hS, fun p np => ?_⟩
    rw [cut60]
    have s1 : Same H (upd H p (.lst ((ns.take 60).map V.int))) := same_upd np
    refine ⟨p, rfl, ⟨_, sq_lst upd_same⟩, fun D nD => ?_⟩
    have nDH : H D = none := s1.free nD
    have hDp : p ≠ D := ne_of_none upd_same nD
    refine lc_list (K := K) (a := p) (xs := (ns.take 60).map V.int) (fun i H' => ∃ cs : List Int, H' D = some (.lst (cs.map V.int)) ∧ (∀ c ∈ cs, 0 ≤ c) ∧ cs.length = i ∧ H' p = some (.lst ((ns.take 60).map V.int)) ∧ Same H H')
      ⟨[], upd_same, by simp, rfl, by rw [upd_ne hDp]; exact upd_same, same_at s1 nDH⟩ (fun i H' _ ⟨_, _, _, _, e, _⟩ => sq_lst e) ?_ ?_
    · rintro i x H' hi ⟨cs, hD, c0, cl, hp, sm⟩
      obtain ⟨z, hz, rfl⟩ := get_int hi
      have hil : i < (ns.take 60).length := (List.getElem?_eq_some_iff.mp hz).1
      rw [List.length_take] at hil
      refine ⟨rfl, _, rfl, z, rfl, _, _, rfl, rfl, .inl ⟨by decide, by decide⟩, _, rfl, _, _, rfl, rfl, .inr ⟨_, rfl, _, _, rfl, rfl, cs.map V.int, hD, (by rw [List.length_map]; exact small1000 (by omega)), cs ++ [2 * (if z < 0 then -z else z) + if decide (z < 0) = true then 1 else 0], ?_, ?_, ?_, ?_, same_at sm nDH⟩⟩
      · rw [upd_same, List.map_append]; rfl
      · intro c hc
        rcases List.mem_append.mp hc with h | h
        · exact c0 c h
        · rw [List.mem_singleton.mp h]; split <;> split <;> omega
      · rw [List.length_append, cl]; rfl
      · rw [upd_ne hDp]; exact hp
    · rintro H2 ⟨cs, hD, c0, cl, hp, sm⟩
      have cl60 : cs.length ≤ 60 := by rw [cl, List.length_map, List.length_take]; omega
      refine ⟨_, _, rfl, ?_⟩
      -- the loop over the cells
      refine ⟨_, rfl, D, rfl, ⟨_, sq_lst hD⟩, for_list (K := K) (a := D) (xs := cs.map V.int) (fun i σ H' => ∃ (y : Option V) (st : Int), σ = [some (.ref a), y, some (.ref D), some (.int st)] ∧ 0 ≤ st ∧ st < 2147483647 ∧ H' = H2)
        ⟨_, 91127, rfl, by decide, by decide, rfl⟩ (fun i σ H' _ ⟨_, _, _, _, _, e⟩ => by rw [e]; exact sq_lst hD) ?_ ?_⟩
      · rintro i x σ H' hi ⟨y, st, rfl, h0, h1, rfl⟩
        obtain ⟨z, hz, rfl⟩ := get_int hi
        refine ⟨_, rfl, _, _, rfl, rfl, .inl ⟨by omega, by omega⟩, _, rfl, .inl ⟨_, rfl, _, _, rfl, rfl, (by show (0 : Int) < 2147483563; decide), _, _, rfl, rfl, _, _, rfl, rfl, .inl ⟨_, rfl, _, _, rfl, rfl, (by show (0 : Int) < 2147483647; decide), ?_⟩⟩⟩
        exact ⟨_, _, rfl, Int.emod_nonneg _ (by decide), Int.emod_lt_of_pos _ (by decide), rfl⟩
      · rintro σ H' ⟨y, st, rfl, h0, h1, rfl⟩
        refine ⟨_, rfl, D, rfl, ⟨_, sq_lst hD⟩, fun D2 nD2 => ?_⟩
        have nD2H : H D2 = none := sm.free nD2
        have hDD : D ≠ D2 := ne_of_none hD nD2
        refine lc_list (K := K) (a := D) (xs := cs.map V.int) (fun i H3 => ∃ ds : List Int, H3 D2 = some (.lst (ds.map V.int)) ∧ (∀ c ∈ ds, 0 ≤ c) ∧ ds.length ≤ i ∧ H3 D = some (.lst (cs.map V.int)) ∧ Same H H3)
          ⟨[], upd_same, by simp, Nat.le_refl _, by rw [upd_ne hDD]; exact hD, same_at sm nD2H⟩ (fun i H' _ ⟨_, _, _, _, e, _⟩ => sq_lst e) ?_ ?_
        · rintro i x H3 hi ⟨ds, hd, d0, dl, hc, sm3⟩
          obtain ⟨z, hz, rfl⟩ := get_int hi
          have hil : i < cs.length := (List.getElem?_eq_some_iff.mp hz).1
          have hz0 : 0 ≤ z := c0 z (List.mem_of_getElem? hz)
          refine ⟨rfl, _, rfl, _, _, rfl, rfl, ⟨by decide, by decide, by decide⟩, _, _, rfl, rfl, _, rfl, ite2 (fun _ => ?_) (fun _ => ?_)⟩
          · refine ⟨_, rfl, ds.map V.int, hd, (by rw [List.length_map]; exact small1000 (by omega)), ds ++ [z], ?_, ?_, ?_, ?_, same_at sm3 nD2H⟩
            · rw [upd_same, List.map_append]; rfl
            · intro c hc
              rcases List.mem_append.mp hc with h | h
              · exact d0 c h
              · rw [List.mem_singleton.mp h]; exact hz0
            · rw [List.length_append]; exact Nat.succ_le_succ dl
            · rw [upd_ne hDD]; exact hc
          · exact ⟨ds, hd, d0, by omega, hc, sm3⟩
        · rintro H3 ⟨ds, hd, d0, dl, hc, sm3⟩
          have dl60 : ds.length ≤ 60 := by rw [List.length_map] at dl; omega
          refine ⟨D2, _, rfl, sq_lst hd, fun q nq => ?_⟩
          refine ⟨_, rfl, (by show 2 ≤ sizeLine; decide), fun g ng => ?_⟩
          have s4 := same_at (o := .lst (ds.map V.int).reverse) sm3 (sm3.free nq)
          have s5 := same_at (o := .lst [.ref q, .int st]) s4 (s4.free ng)
          have hgq : g ≠ q := (ne_of_none upd_same ng).symm
          refine k _ g q s5 (s4.free ng) (sm3.free nq) ⟨ds.reverse, st, hgq, upd_same, ?_, ?_, ?_, h0, h1⟩
          · rw [upd_ne hgq.symm, upd_same, List.map_reverse]
          · intro c hc; exact d0 c (List.mem_reverse.mp hc)
          · rw [List.length_reverse]; exact dl60
abbrev s_Lpick : Stmt := topS 48
abbrev n_Lpick : List Str := ["heap", "some"]
theorem sc_Lpick : FnScope n_Lpick ["heap", "some"] (defScope s_Lpick) := ⟨rfl, rfl, rfl, by decide +kernel, rfl, by decide +kernel, by decide +kernel⟩
def spPickL : Sp := fun vs H Q _ => ∃ (h q p : Addr) (xs : List V), vs = [.ref h, .ref p] ∧ HpAt H h q ∧ H p = some (.lst xs) ∧ p ≠ h ∧ p ≠ q ∧ xs ≠ [] ∧ xs.length ≤ 1000 ∧ ∀ v H', v ∈ xs → HpAt H' h q → Kpt h q H H' → Q v H'
theorem ok_pickL {f : Addr} {fd : FuncData} (F : Fun K "_law_pick" "_law_pick" s_Lpick f fd) (T : Txt K mg w aW aT es nn) (c_Ldraw : Cal P w K mg base 1 "_law_draw" spDraw []) : FnOk P w K mg base CX0 2 f fd ["heap", "some"] spPickL := by
  refine F.ok sc_Lpick (fun vs H Q E h => ?_) (fun cdv A outer s H vs Q E hr h => ?_)
  · obtain ⟨h, q, p, xs, rfl, _⟩ := h
    rfl
  · obtain ⟨h, q, p, xs, rfl, a, hp, p1, p2, hl, hn, k⟩ := h
    refine ⟨_, (pss_one (ps_ret (pe_ix ix_list (pv 1) (pe_c c_Ldraw hr (by decide) (by rfl) (pa_cons (pv 0) (pa_cons (pe_callB call_len_seq (by rfl) T.b_len (by decide +kernel) (pa_cons (pv 1) pa_nil)) pa_nil))) (fun _ _ => rfl)))), ?_⟩
    have h1 : 0 < xs.length := List.length_pos_iff.mpr hl
    refine ⟨_, rfl, _, rfl, _, rfl, p, xs, rfl, .inl (sq_lst hp), h, q, (xs.length : Int), rfl, a, by omega, by omega, fun d H' d0 d1 a' kp => ?_⟩
    obtain ⟨j, rfl⟩ : ∃ j : Nat, d = (j : Int) := ⟨d.toNat, by omega⟩
    have hj : j < xs.length := by omega
    exact ⟨p, xs, (j : Int), xs[j], rfl, rfl, sq_lst (kp _ _ hp p1 p2), atI_nat (List.getElem?_eq_getElem hj), k _ _ (List.getElem_mem hj) a' kp⟩
end
end M66

namespace M66
/-! ### tops of sums over boxes -/
def cor (p : Int × Fr) : Int := if p.1 > 0 then p.2.2 else p.2.1
def corner (a : List Int) (box : List Fr) : List Int := (a.zip box).map cor
def topF (a : List Int) (box : List Fr) : Int := ((a.zip box).map fun p => p.1 * cor p).sum
def dot : List Int → List Int → Int
  | x :: a, y :: b => x * y + dot a b
  | _, _ => 0
inductive InB : List Int → List Fr → Prop
  | nil : InB [] []
  | cons {x : Int} {p : Fr} {xs : List Int} {ps : List Fr} : p.1 ≤ x → x ≤ p.2 → InB xs ps → InB (x :: xs) (p :: ps)
def Bx (box : List Fr) : Prop := ∀ p ∈ box, p.1 ≤ p.2
theorem InB.len : ∀ {x : List Int} {box : List Fr}, InB x box → x.length = box.length
  | _, _, .nil => rfl
  | _, _, .cons _ _ t => congrArg (· + 1) t.len
theorem InB.at_ : ∀ {x : List Int} {box : List Fr} {k : Nat} {c : Int} {p : Fr}, InB x box → x[k]? = some c → box[k]? = some p → p.1 ≤ c ∧ c ≤ p.2
  | _, _, 0, _, _, .cons h1 h2 _, e1, e2 => by
    cases e1
    cases e2
    exact ⟨h1, h2⟩
  | _, _, k + 1, _, _, .cons _ _ t, e1, e2 => t.at_ (k := k) (by simpa using e1) (by simpa using e2)
theorem inB_of : ∀ {x : List Int} {box : List Fr}, x.length = box.length → (∀ (k : Nat) c p, x[k]? = some c → box[k]? = some p → p.1 ≤ c ∧ c ≤ p.2) → InB x box
  | [], [], _, _ => .nil
  | c :: xs, p :: ps, l, h => .cons (h 0 c p rfl rfl).1 (h 0 c p rfl rfl).2 (inB_of (by simpa using l) fun k c p e1 e2 => h (k + 1) c p (by simpa using e1) (by simpa using e2))
  | [], _ :: _, l, _ => by simp at l
  | _ :: _, [], l, _ => by simp at l
theorem cor_in {c : Int} {p : Fr} (h : p.1 ≤ p.2) : p.1 ≤ cor (c, p) ∧ cor (c, p) ≤ p.2 := by
  unfold cor
  dsimp only
  split
  · exact ⟨h, Int.le_refl _⟩
  · exact ⟨Int.le_refl _, h⟩
theorem cor_top {c x : Int} {p : Fr} (h1 : p.1 ≤ x) (h2 : x ≤ p.2) : c * x ≤ c * cor (c, p) := by
  unfold cor
  dsimp only
  split
  · exact Int.mul_le_mul_of_nonneg_left h2 (by omega)
  · exact Int.mul_le_mul_of_nonpos_left (by omega) h1
theorem top_ge : ∀ {a x : List Int} {box : List Fr}, InB x box → dot a x ≤ topF a box
  | [], _, _, _ => by unfold topF; simp [dot]
  | _ :: _, _, _, .nil => by unfold topF; simp [dot]
  | c :: a, _, _, .cons h1 h2 t => by
    have ih := top_ge (a := a) t
    have := cor_top (c := c) h1 h2
    unfold topF at ih ⊢
    rw [List.zip_cons_cons, List.map_cons, List.sum_cons]
    unfold dot
    dsimp only
    omega
theorem corner_in : ∀ {a : List Int} {box : List Fr}, a.length = box.length → Bx box → InB (corner a box) box
  | [], [], _, _ => .nil
  | c :: a, p :: box, l, h => by
    have := cor_in (c := c) (h p (List.mem_cons_self ..))
    exact .cons this.1 this.2 (corner_in (by simpa using l) fun q hq => h q (List.mem_cons_of_mem _ hq))
  | [], _ :: _, l, _ => by simp at l
  | _ :: _, [], l, _ => by simp at l
theorem corner_top : ∀ {a : List Int} {box : List Fr}, a.length = box.length → dot a (corner a box) = topF a box
  | [], [], _ => rfl
  | c :: a, p :: box, l => by
    have ih := corner_top (a := a) (box := box) (by simpa using l)
    unfold corner topF at ih ⊢
    rw [List.zip_cons_cons, List.map_cons, List.map_cons, List.sum_cons]
    unfold dot
    rw [ih]
  | [], _ :: _, l => by simp at l
  | _ :: _, [], l => by simp at l
/-! ### one value put at a place -/
theorem dot_set : ∀ {a x : List Int} {k : Nat} {c v w : Int}, a[k]? = some c → x[k]? = some w → dot a (x.set k v) = dot a x + c * (v - w)
  | c' :: a, w' :: x, 0, _, v, _, e1, e2 => by
    cases e1
    cases e2
    rw [List.set_cons_zero]
    unfold dot
    rw [Int.mul_sub]; omega
  | c' :: a, w' :: x, k + 1, c, v, w, e1, e2 => by
    have ih := dot_set (a := a) (x := x) (k := k) (v := v) (by simpa using e1) (by simpa using e2)
    rw [List.set_cons_succ]
    unfold dot
    rw [ih]; omega
  | [], _, _, _, _, _, e1, _ => by simp at e1
  | _ :: _, [], _, _, _, _, _, e2 => by simp at e2
theorem set_in {x : List Int} {box : List Fr} {k : Nat} {v : Int} {p : Fr} (h : InB x box) (e : box[k]? = some p) (h1 : p.1 ≤ v) (h2 : v ≤ p.2) : InB (x.set k v) box := by
  refine inB_of (by rw [List.length_set]; exact h.len) fun j c q e1 e2 => ?_
  rw [List.getElem?_set] at e1
  by_cases z : k = j
  · subst z
    rw [if_pos rfl] at e1
    split at e1
    · cases e1
      rw [e] at e2
      cases e2
      exact ⟨h1, h2⟩
    · cases e1
  · rw [if_neg z] at e1
    exact h.at_ e1 e2
theorem corner_at {a : List Int} {box : List Fr} {k : Nat} {c : Int} {p : Fr} (e1 : a[k]? = some c) (e2 : box[k]? = some p) : (corner a box)[k]? = some (cor (c, p)) := by
  unfold corner
  rw [List.getElem?_map, zip_at e1 e2]; rfl
/-- points that keep a row -/
def Kp (box : List Fr) (r : Row) (x : List Int) : Prop := InB x box ∧ r.bd ≤ dot r.am x
theorem kp_some {box : List Fr} {r : Row} (l : r.am.length = box.length) (hb : Bx box) : (∃ x, Kp box r x) ↔ r.bd ≤ topF r.am box := by
  constructor
  · rintro ⟨x, h, k⟩
    have := top_ge (a := r.am) h
    omega
  · intro h
    exact ⟨_, corner_in l hb, by rw [corner_top l]; exact h⟩
/-- a place of the least box of one sum -/
def spF (sp : Int) (q : Int × Fr) : Fr := if q.1 > 0 then ((if q.2.2 - sp / q.1 > q.2.1 then q.2.2 - sp / q.1 else q.2.1), q.2.2) else if q.1 < 0 then (q.2.1, if q.2.1 + sp / -q.1 < q.2.2 then q.2.1 + sp / -q.1 else q.2.2) else q.2
def sumBox (r : Row) (box : List Fr) : List Fr := (r.am.zip box).map (spF (topF r.am box - r.bd))
theorem div_iff {c s d : Int} (hc : 0 < c) : d ≤ s / c ↔ c * d ≤ s := by
  rw [Int.le_ediv_iff_mul_le hc, Int.mul_comm]
theorem spF_in {sp c v : Int} {p : Fr} (hs : 0 ≤ sp) (hp : p.1 ≤ p.2) (h1 : p.1 ≤ v) (h2 : v ≤ p.2) : ((spF sp (c, p)).1 ≤ v ∧ v ≤ (spF sp (c, p)).2) ↔ c * (cor (c, p) - v) ≤ sp := by
  unfold spF cor
  dsimp only
  by_cases c1 : c > 0
  · rw [if_pos c1, if_pos c1]
    have := div_iff (s := sp) (d := p.2 - v) (show 0 < c by omega)
    rw [← this]
    dsimp only
    constructor
    · rintro ⟨a, b⟩
      split at a <;> omega
    · intro a
      refine ⟨?_, h2⟩
      split <;> omega
  · rw [if_neg c1, if_neg c1]
    by_cases c2 : c < 0
    · rw [if_pos c2]
      have := div_iff (s := sp) (d := v - p.1) (show 0 < -c by omega)
      have e : c * (p.1 - v) = -c * (v - p.1) := by rw [Int.neg_mul, ← Int.mul_neg, Int.neg_sub]
      rw [e, ← this]
      dsimp only
      constructor
      · rintro ⟨a, b⟩
        split at b <;> omega
      · intro a
        refine ⟨h1, ?_⟩
        split <;> omega
    · rw [if_neg c2]
      have : c = 0 := by omega
      subst this
      rw [Int.zero_mul]
      exact ⟨fun _ => hs, fun _ => ⟨h1, h2⟩⟩
theorem spF_sub {sp c : Int} {p : Fr} (hs : 0 ≤ sp) (hp : p.1 ≤ p.2) : p.1 ≤ (spF sp (c, p)).1 ∧ (spF sp (c, p)).1 ≤ (spF sp (c, p)).2 ∧ (spF sp (c, p)).2 ≤ p.2 := by
  unfold spF
  dsimp only
  by_cases c1 : c > 0
  · rw [if_pos c1]
    have := Int.ediv_nonneg hs (show 0 ≤ c by omega)
    dsimp only
    refine ⟨?_, ?_, Int.le_refl _⟩ <;> split <;> omega
  · rw [if_neg c1]
    by_cases c2 : c < 0
    · rw [if_pos c2]
      have := Int.ediv_nonneg hs (show 0 ≤ -c by omega)
      dsimp only
      refine ⟨Int.le_refl _, ?_, ?_⟩ <;> split <;> omega
    · rw [if_neg c2]
      exact ⟨Int.le_refl _, hp, Int.le_refl _⟩
theorem kp_at {box : List Fr} {r : Row} (l : r.am.length = box.length) (hb : Bx box) {k : Nat} {c : Int} {p : Fr} (e1 : r.am[k]? = some c) (e2 : box[k]? = some p) {v : Int} (h1 : p.1 ≤ v) (h2 : v ≤ p.2) :
    (∃ x, Kp box r x ∧ x[k]? = some v) ↔ c * (cor (c, p) - v) ≤ topF r.am box - r.bd := by
  have hc := corner_at e1 e2
  have le : k < (corner r.am box).length := (List.getElem?_eq_some_iff.mp hc).1
  constructor
  · rintro ⟨x, ⟨hx, hk⟩, ev⟩
    -- the other places at the corner
    have h3 := top_ge (a := r.am) (set_in hx e2 (cor_in (c := c) (hb p (List.mem_of_getElem? e2))).1 (cor_in (c := c) (hb p (List.mem_of_getElem? e2))).2)
    rw [dot_set e1 ev] at h3
    omega
  · intro h
    refine ⟨(corner r.am box).set k v, ⟨set_in (corner_in l hb) e2 h1 h2, ?_⟩, by rw [List.getElem?_set_self le]⟩
    rw [dot_set e1 hc, corner_top l]
    have : c * (v - cor (c, p)) = -(c * (cor (c, p) - v)) := by rw [← Int.mul_neg, Int.neg_sub]
    omega
/-! ### the least box of the points of a set -/
structure Lst (S : List Int → Prop) (n : Nat) (B : List Fr) : Prop where
  len : B.length = n
  lo : ∀ (k : Nat) p, B[k]? = some p → (∃ x, S x ∧ x[k]? = some p.1) ∧ (∃ x, S x ∧ x[k]? = some p.2)
  bd : ∀ (k : Nat) p, B[k]? = some p → ∀ x c, S x → x[k]? = some c → p.1 ≤ c ∧ c ≤ p.2
theorem Lst.uniq {S : List Int → Prop} {n : Nat} {B B' : List Fr} (h : Lst S n B) (h' : Lst S n B') : B = B' := by
  refine List.ext_getElem? fun k => ?_
  by_cases c : k < n
  · have e : B[k]? = some (B[k]'(by rw [h.len]; exact c)) := List.getElem?_eq_getElem _
    have e' : B'[k]? = some (B'[k]'(by rw [h'.len]; exact c)) := List.getElem?_eq_getElem _
    generalize B[k]'(by rw [h.len]; exact c) = p at *
    generalize B'[k]'(by rw [h'.len]; exact c) = p' at *
    obtain ⟨⟨x, hx, ex⟩, ⟨y, hy, ey⟩⟩ := h.lo k p e
    obtain ⟨⟨x', hx', ex'⟩, ⟨y', hy', ey'⟩⟩ := h'.lo k p' e'
    have a1 := h'.bd k p' e' x _ hx ex
    have a2 := h'.bd k p' e' y _ hy ey
    have a3 := h.bd k p e x' _ hx' ex'
    have a4 := h.bd k p e y' _ hy' ey'
    rw [e, e']
    have : p = p' := Prod.ext (by omega) (by omega)
    rw [this]
  · rw [List.getElem?_eq_none (by rw [h.len]; omega), List.getElem?_eq_none (by rw [h'.len]; omega)]
/-- points that keep one of some rows -/
def Ei (box : List Fr) (rs : List Row) (x : List Int) : Prop := ∃ r ∈ rs, Kp box r x
theorem Lst.sub {box : List Fr} {S : List Int → Prop} {n : Nat} {B : List Fr} (h : Lst S n B) (hS : ∀ x, S x → InB x box) (hn : n = box.length) : ∀ (k : Nat) p q, B[k]? = some p → box[k]? = some q → q.1 ≤ p.1 ∧ p.1 ≤ p.2 ∧ p.2 ≤ q.2 := fun k p q e1 e2 => by
  obtain ⟨⟨x, hx, ex⟩, ⟨y, hy, ey⟩⟩ := h.lo k p e1
  have a1 := (hS x hx).at_ ex e2
  have a2 := (hS y hy).at_ ey e2
  have a3 := h.bd k p e1 x _ hx ex
  exact ⟨a1.1, a3.2, a2.2⟩
/-- within the least box the same points are left -/
theorem Lst.same {box : List Fr} {rs : List Row} {B : List Fr} (h : Lst (Ei box rs) box.length B) : ∀ x, Ei B rs x ↔ Ei box rs x := fun x => by
  constructor
  · rintro ⟨r, hr, hx, hk⟩
    refine ⟨r, hr, inB_of (by rw [hx.len, h.len]) fun k c q e1 e2 => ?_, hk⟩
    have lk : k < B.length := by rw [← hx.len]; exact (List.getElem?_eq_some_iff.mp e1).1
    have e3 : B[k]? = some B[k] := List.getElem?_eq_getElem lk
    have := hx.at_ e1 e3
    have := h.sub (fun x ⟨_, _, z, _⟩ => z) rfl k _ _ e3 e2
    omega
  · intro hx
    obtain ⟨r, hr, hb, hk⟩ := id hx
    exact ⟨r, hr, inB_of (by rw [hb.len, h.len]) fun k c p e1 e2 => h.bd k p e2 x c hx e1, hk⟩
theorem Lst.again {box : List Fr} {rs : List Row} {B : List Fr} (h : Lst (Ei box rs) box.length B) : Lst (Ei B rs) B.length B := by
  refine ⟨rfl, fun k p e => ?_, fun k p e x c hx ec => h.bd k p e x c ((h.same x).mp hx) ec⟩
  obtain ⟨⟨x, hx, ex⟩, ⟨y, hy, ey⟩⟩ := h.lo k p e
  exact ⟨⟨x, (h.same x).mpr hx, ex⟩, ⟨y, (h.same y).mpr hy, ey⟩⟩
end M66

namespace M66
open PySem PySem.Spec PyProof.Rows L2 SX Own Gd
open C8 (Cal pe_c pe_gc pe_mk Mak pss_cut)
/-! ### all points of a small box; sums -/
def iv (p : Fr) : List Int := (List.range (p.2 + 1 - p.1).toNat).map fun k => p.1 + ((k : Nat) : Int)
def ext (p : Fr) (x : List Int) : List (List Int) := (iv p).map fun v => x ++ [v]
def stepP (ps : List (List Int)) (p : Fr) : List (List Int) := (ps.map (ext p)).flatten
def ptsT (box : List Fr) : List (List Int) := box.foldl stepP [[]]
theorem mem_iv {p : Fr} {v : Int} : v ∈ iv p ↔ p.1 ≤ v ∧ v ≤ p.2 := by
  unfold iv
  constructor
  · intro h
    obtain ⟨k, hk, rfl⟩ := List.mem_map.mp h
    have := List.mem_range.mp hk
    omega
  · intro h
    exact List.mem_map.mpr ⟨(v - p.1).toNat, List.mem_range.mpr (by omega), by omega⟩
theorem inB_snoc {x : List Int} {box : List Fr} {p : Fr} : ∀ {y : List Int}, InB y (box ++ [p]) ↔ ∃ x v, y = x ++ [v] ∧ InB x box ∧ p.1 ≤ v ∧ v ≤ p.2 := by
  induction box with
  | nil =>
    intro y
    constructor
    · intro h
      cases h with
      | cons h1 h2 t => cases t; exact ⟨[], _, rfl, .nil, h1, h2⟩
    · rintro ⟨x, v, rfl, h, h1, h2⟩
      cases h
      exact .cons h1 h2 .nil
  | cons q box ih =>
    intro y
    constructor
    · intro h
      cases h with
      | cons h1 h2 t =>
        obtain ⟨x, v, rfl, hx, g⟩ := ih.mp t
        exact ⟨_ :: x, v, rfl, .cons h1 h2 hx, g⟩
    · rintro ⟨x, v, rfl, h, g⟩
      cases h with
      | cons h1 h2 t => exact .cons h1 h2 (ih.mpr ⟨_, v, rfl, t, g⟩)
theorem ptsT_snoc (box : List Fr) (p : Fr) : ptsT (box ++ [p]) = stepP (ptsT box) p := by
  unfold ptsT
  rw [List.foldl_append]; rfl
theorem mem_stepP {ps : List (List Int)} {p : Fr} {y : List Int} : y ∈ stepP ps p ↔ ∃ x v, y = x ++ [v] ∧ x ∈ ps ∧ p.1 ≤ v ∧ v ≤ p.2 := by
  unfold stepP ext
  constructor
  · intro h
    obtain ⟨l, hl, hy⟩ := List.mem_flatten.mp h
    obtain ⟨x, hx, rfl⟩ := List.mem_map.mp hl
    obtain ⟨v, hv, rfl⟩ := List.mem_map.mp hy
    exact ⟨x, v, rfl, hx, mem_iv.mp hv⟩
  · rintro ⟨x, v, rfl, hx, hv⟩
    exact List.mem_flatten.mpr ⟨_, List.mem_map.mpr ⟨x, hx, rfl⟩, List.mem_map.mpr ⟨v, mem_iv.mpr hv, rfl⟩⟩
theorem mem_pts (box : List Fr) : ∀ {y : List Int}, y ∈ ptsT box ↔ InB y box := by
  generalize hn : box.length = n
  induction n generalizing box with
  | zero =>
    intro y
    have : box = [] := List.eq_nil_of_length_eq_zero hn
    subst this
    constructor
    · intro h
      have : y = [] := by simpa [ptsT] using h
      subst this
      exact .nil
    · intro h
      cases h
      simp [ptsT]
  | succ n ih =>
    intro y
    rcases List.eq_nil_or_concat box with rfl | ⟨b, p, rfl⟩
    · cases hn
    · rw [List.concat_eq_append] at hn ⊢
      rw [ptsT_snoc, mem_stepP, inB_snoc (x := y)]
      have := fun {y : List Int} => ih b (by simpa using hn) (y := y)
      constructor
      · rintro ⟨x, v, e, hx, g⟩
        exact ⟨x, v, e, this.mp hx, g⟩
      · rintro ⟨x, v, e, hx, g⟩
        exact ⟨x, v, e, this.mpr hx, g⟩
def Nar (box : List Fr) : Prop := ∀ p ∈ box, p.1 ≤ p.2 ∧ p.2 ≤ p.1 + 4 ∧ -100 ≤ p.1 ∧ p.1 ≤ 100
theorem iv_len {p : Fr} (h : p.2 ≤ p.1 + 4) : (iv p).length ≤ 5 := by
  unfold iv
  rw [List.length_map, List.length_range]
  omega
theorem stepP_len {ps : List (List Int)} {p : Fr} (h : p.2 ≤ p.1 + 4) : (stepP ps p).length ≤ 5 * ps.length := by
  unfold stepP
  induction ps with
  | nil => exact Nat.le_refl _
  | cons x t ih =>
    have := iv_len h
    rw [List.map_cons, List.flatten_cons, List.length_append, List.length_cons]
    unfold ext at ih ⊢
    rw [List.length_map]
    omega
theorem pts_len : ∀ (box : List Fr), Nar box → box.length ≤ 3 → (ptsT box).length ≤ 125
  | [], _, _ => by decide
  | [a], h, _ => by
    have h1 := stepP_len (ps := [[]]) (h a (by simp)).2.1
    show (stepP [[]] a).length ≤ 125
    simp only [List.length_singleton] at h1
    omega
  | [a, b], h, _ => by
    have h1 := stepP_len (ps := [[]]) (h a (by simp)).2.1
    have h2 := stepP_len (ps := stepP [[]] a) (h b (by simp)).2.1
    show (stepP (stepP [[]] a) b).length ≤ 125
    simp only [List.length_singleton] at h1
    omega
  | [a, b, c], h, _ => by
    have h1 := stepP_len (ps := [[]]) (h a (by simp)).2.1
    have h2 := stepP_len (ps := stepP [[]] a) (h b (by simp)).2.1
    have h3 := stepP_len (ps := stepP (stepP [[]] a) b) (h c (by simp)).2.1
    show (stepP (stepP (stepP [[]] a) b) c).length ≤ 125
    simp only [List.length_singleton] at h1
    omega
  | _ :: _ :: _ :: _ :: _, _, l => by simp at l
theorem pts_take {box : List Fr} (h : Nar box) (l : box.length ≤ 3) (i : Nat) : (ptsT (box.take i)).length ≤ 125 :=
  pts_len _ (fun p hp => h p (List.mem_of_mem_take hp)) (by rw [List.length_take]; omega)
theorem pts_at_len {box : List Fr} {x : List Int} (h : x ∈ ptsT box) : x.length = box.length := ((mem_pts box).mp h).len
section
variable {P : Program} {w : World} {K : PySem.W.Frag} {mg : Str → Option Value} {base : Heap} {aW aT : Addr} {es : Array DictEntry} {nn : Nat}
/-- a list of points -/
def PsV (H : Hp) (v : V) (ps : List (List Int)) : Prop := ∃ p us, v = .ref p ∧ H p = some (.lst us) ∧ All2 (LV H) us ps
abbrev s_Lpoints : Stmt := topS 49
abbrev n_Lpoints : List Str := ["box", "found", "low", "high", "longer", "point", "value"]
theorem sc_Lpoints : FnScope n_Lpoints ["box"] (defScope s_Lpoints) := ⟨rfl, rfl, rfl, by decide +kernel, rfl, by decide +kernel, by decide +kernel⟩
def spPoints : Sp := fun vs H Q _ => ∃ (b : V) (box : List Fr), vs = [b] ∧ SV H b box ∧ Nar box ∧ box.length ≤ 3 ∧ ∀ H' v, Same H H' → PsV H' v (ptsT box) → Q v H'
theorem ok_Lpoints {f : Addr} {fd : FuncData} (F : Fun K "_law_points" "_law_points" s_Lpoints f fd) (T : Txt K mg w aW aT es nn) : FnOk P w K mg base CX0 1 f fd ["box"] spPoints := by
  refine F.ok sc_Lpoints (fun vs H Q E h => ?_) (fun cdv A outer s H vs Q E hr h => ?_)
  · obtain ⟨b, box, rfl, _⟩ := h
    rfl
  · obtain ⟨b, box, rfl, ⟨pb, bs, rfl, hpb, alb⟩, nar, l3, fin⟩ := h
    have lb := alb.len
    refine ⟨_, (pss_cons (ps_set (i := 1) sc_Lpoints.nd rfl (.inl rfl) (pe_lst (pa_cons (pe_tup pa_nil) pa_nil)))
      (pss_cons (ps_for PassesOwn.never rfl (pi_tup (pv 0)) (pg_tup rfl (pgs_cons (pg_name (i := 2) sc_Lpoints.nd rfl (.inl rfl)) (pgs_cons (pg_name (i := 3) sc_Lpoints.nd rfl (.inl rfl)) pgs_nil))) (pss_cons (ps_set (i := 4) sc_Lpoints.nd rfl (.inl rfl) (pe_lst pa_nil))
        (pss_cons (ps_for PassesOwn.never rfl (pi_list (pv 1)) (pg_name (i := 5) sc_Lpoints.nd rfl (.inr rfl)) (pss_one (ps_set (i := 4) sc_Lpoints.nd rfl (.inl rfl) (pe_op op_cat (pv 4) (pe_lc (own := [("value", 6)]) rfl sc_Lpoints.nd (pi_range2 (by rfl) T.b_range (pa_cons (pv 2) (pa_cons (pe_op op_add (pv 3) pe_int) pa_nil))) (blkOk_by (N := n_Lpoints) (sc := defScope s_Lpoints) (by decide +kernel)) (fun _ _ _ _ _ => (pg_name (i := 6) sc_Lpoints.nd rfl (.inl rfl))) (fun _ _ _ _ _ => pts_nil) (fun _ _ _ _ _ => (pe_op (r := rCatA K) op_catA (pv 5) (pe_tup (pa_cons (pv 6) pa_nil)))))))))
        (pss_one (ps_set (i := 1) sc_Lpoints.nd rfl (.inl rfl) (pv 4))))))
      (pss_one (ps_ret (pv 1))))), ?_⟩
    refine ⟨nil_ok, fun e ne => ?_⟩
    have ke := same_upd (o := .tup []) ne
    have he : upd H e (.tup []) e = some (.tup []) := upd_same
    generalize upd H e (.tup []) = H0 at *
    refine ⟨(by decide : 1 ≤ sizeLine), fun L nL => ?_⟩
    have kL := same_upd (o := .lst [.ref e]) nL
    have eL : upd H0 L (.lst [.ref e]) L = some (.lst [.ref e]) := upd_same
    have s1 := ke.trans kL
    have he1 := kL _ _ he
    generalize upd H0 L (.lst [.ref e]) = H1 at *
    refine ⟨_, rfl, pb, rfl, ⟨_, sq_tup (s1 _ _ hpb)⟩, for_tup (xs := bs) (fun i σ H' => ∃ (G : Addr) (us : List V) (y2 y3 y4 y5 y6 : Option V), σ = [some (.ref pb), some (.ref G), y2, y3, y4, y5, y6] ∧ H' G = some (.lst us) ∧ All2 (LV H') us (ptsT (box.take i)) ∧ Same H H')
      ⟨L, _, none, none, none, none, none, rfl, eL, .cons ⟨e, rfl, he1⟩ .nil, s1⟩ (fun i σ H' _ h => ?_) (fun i v σ H' hv h => ?_) (fun σ H' h => ?_)⟩
    · obtain ⟨G, us, y2, y3, y4, y5, y6, rfl, eG, al, sm⟩ := h
      exact sq_tup (sm _ _ hpb)
    · obtain ⟨G, us, y2, y3, y4, y5, y6, rfl, eG, al, sm⟩ := h
      obtain ⟨p, hp, pp, rfl, hpp⟩ := alb.at_ hv
      obtain ⟨np1, np2, np3, np4⟩ := nar p (List.mem_of_getElem? hp)
      have lt := pts_take nar l3 (i + 1)
      have eps : ptsT (box.take (i + 1)) = stepP (ptsT (box.take i)) p := by rw [take_one hp, ptsT_snoc]
      rw [eps] at lt
      have eln : ∀ x ∈ ptsT (box.take i), x.length ≤ 3 := fun x hx => by
        rw [pts_at_len hx, List.length_take]; omega
      generalize ptsT (box.take i) = ps at *
      refine ⟨pp, _, rfl, sq_tup (sm _ _ hpp), rfl, _, _, rfl, _, _, rfl, rfl, ?_⟩
      refine ⟨nil_ok, fun M nM => ?_⟩
      have kM := same_upd (o := .lst []) nM
      have eM : upd H' M (.lst []) M = some (.lst []) := upd_same
      have eG1 := kM _ _ eG
      have al1 := al.mono fun v x g => LV.same g kM
      have sm1 := sm.trans kM
      generalize upd H' M (.lst []) = H2 at *
      refine ⟨_, rfl, G, rfl, ⟨_, sq_lst eG1⟩, for_list (xs := us) (fun j σ H' => ∃ (N : Addr) (ws : List V) (y5 y6 : Option V), σ = [some (.ref pb), some (.ref G), some (.int p.1), some (.int p.2), some (.ref N), y5, y6] ∧ H' N = some (.lst ws) ∧ All2 (LV H') ws (stepP (ps.take j) p) ∧ Same H2 H')
        ⟨M, [], _, _, rfl, eM, .nil, Same.refl _⟩ (fun j σ H' _ h => ?_) (fun j v σ Hj hv h => ?_) (fun σ H' h => ?_)⟩
      · obtain ⟨N, ws, y5, y6, rfl, eN, alN, sN⟩ := h
        exact sq_lst (sN _ _ eG1)
      · obtain ⟨N, ws, y5, y6, rfl, eN, alN, sN⟩ := h
        obtain ⟨x, hx, q, rfl, hq⟩ := al1.at_ hv
        have hq2 := sN _ _ hq
        have xl := eln x (List.mem_of_getElem? hx)
        have es : stepP (ps.take (j + 1)) p = stepP (ps.take j) p ++ ext p x := by
          unfold stepP
          rw [take_one hx, List.map_append, List.flatten_append]
          simp
        have el : (ext p x).length ≤ 5 := by unfold ext; rw [List.length_map]; exact iv_len np2
        have lw : (stepP (ps.take j) p).length ≤ 125 := by
          have h1 : stepP ps p = stepP (ps.take j) p ++ stepP (ps.drop j) p := by
            unfold stepP
            rw [← List.flatten_append, ← List.map_append, List.take_append_drop]
          rw [h1, List.length_append] at lt
          omega
        refine ⟨_, rfl, _, rfl, _, rfl, _, _, rfl, rfl, p.1, p.2 + 1, rfl, by omega, fun D nD => ?_⟩
        refine lc_range (lo := p.1) (n := (p.2 + 1 - p.1).toNat) (fun k H' => ∃ cs : List V, H' D = some (.lst cs) ∧ All2 (LV H') cs ((ext p x).take k) ∧ Same Hj H') ⟨[], upd_same, .nil, same_upd nD⟩ (fun k H3 hk hI => ?_) (fun H3 hI => ?_)
        · obtain ⟨cs, eD, alc, s3⟩ := hI
          have lc := alc.len
          rw [List.length_take] at lc
          have ek : (ext p x)[k]? = some (x ++ [p.1 + ((k : Nat) : Int)]) := by
            unfold ext iv
            rw [List.getElem?_map, List.getElem?_map, List.getElem?_range hk]; rfl
          refine ⟨rfl, _, rfl, _, rfl, (by show 1 ≤ sizeLine; decide), fun t nt => ?_⟩
          have kt := same_upd (o := .tup [.int (p.1 + ((k : Nat) : Int))]) nt
          have ht : upd H3 t (.tup [.int (p.1 + ((k : Nat) : Int))]) t = some (.tup [.int (p.1 + ((k : Nat) : Int))]) := upd_same
          have fin2 : ∀ (u : V) (H4 : Hp), Same H3 H4 → LV H4 u (x ++ [p.1 + ((k : Nat) : Int)]) → ∃ acc, H4 D = some (.lst acc) ∧ acc.length < sizeLine ∧ ∃ cs, upd H4 D (.lst (acc ++ [u])) D = some (.lst cs) ∧ All2 (LV (upd H4 D (.lst (acc ++ [u])))) cs ((ext p x).take (k + 1)) ∧ Same Hj (upd H4 D (.lst (acc ++ [u]))) := fun u H4 s4 g => by
            have eD4 := s4 _ _ eD
            refine ⟨cs, eD4, small1000 (by omega), cs ++ [u], upd_same, ?_, same_at (s3.trans s4) nD⟩
            rw [take_one ek]
            obtain ⟨z, e, hz⟩ := g
            exact (alc.mono fun v y g => by obtain ⟨z, e, hz⟩ := g; exact ⟨z, e, (TK.put eD4) _ _ (s4 _ _ hz)⟩).app ⟨z, e, (TK.put eD4) _ _ hz⟩
          have hqt := kt _ _ (s3 _ _ hq2)
          generalize upd H3 t (.tup [.int (p.1 + ((k : Nat) : Int))]) = H4 at *
          refine ⟨q, t, _, _, rfl, rfl, sq_tup hqt, sq_tup ht, small1001 (by rw [List.length_map, List.length_singleton]; omega), fun z => ?_, (fun _ z => by cases z), fun _ _ r nr => ?_⟩
          · have : x = [] := by simpa using z
            subst this
            exact fin2 _ _ kt ⟨t, rfl, ht⟩
          · have kr := same_upd (o := .tup (x.map V.int ++ [.int (p.1 + ((k : Nat) : Int))])) nr
            refine fin2 _ _ (kt.trans kr) ⟨r, rfl, ?_⟩
            rw [upd_same]
            unfold tI
            rw [List.map_append]; rfl
        · obtain ⟨cs, eD, alc, s3⟩ := hI
          have le : (ext p x).length = (p.2 + 1 - p.1).toNat := by unfold ext iv; rw [List.length_map, List.length_map, List.length_range]
          rw [List.take_of_length_le (by omega)] at alc
          have lc := alc.len
          have lN := alN.len
          refine ⟨N, D, ws, cs, rfl, rfl, s3 _ _ eN, eD, small1001 (by omega), fun r nr => ?_⟩
          have kr := same_upd (o := .lst (ws ++ cs)) nr
          refine ⟨r, ws ++ cs, _, _, rfl, upd_same, ?_, sN.trans (s3.trans kr)⟩
          rw [es]
          exact (alN.mono fun v y g => LV.same g (s3.trans kr)).cat (alc.mono fun v y g => LV.same g kr)
      · obtain ⟨N, ws, y5, y6, rfl, eN, alN, sN⟩ := h
        rw [al.len, List.take_length] at alN
        exact ⟨_, rfl, N, ws, _, _, _, _, _, rfl, eN, by rw [eps]; exact alN, sm1.trans sN⟩
    · obtain ⟨G, us, y2, y3, y4, y5, y6, rfl, eG, al, sm⟩ := h
      rw [lb, List.take_length] at al
      exact ⟨_, rfl, fin _ _ sm ⟨G, us, rfl, eG, al⟩⟩
end
end M66

namespace M66
open PySem PySem.Spec PyProof.Rows L2 SX Own Gd
open C8 (Cal pe_c pe_gc pe_mk Mak pss_cut)
/-- coefficients of some size -/
def Am (r : Row) : Prop := ∀ c ∈ r.am, c.natAbs ≤ 1000000
def topT (z : List (Int × Fr)) : Int := (z.map fun p => p.1 * cor p).sum
theorem topT_app (z : List (Int × Fr)) (p : Int × Fr) : topT (z ++ [p]) = topT z + p.1 * cor p := by
  unfold topT
  rw [List.map_append, List.sum_append]; simp
theorem am_at {r : Row} (h : Am r) {i : Nat} {c : Int} (e : r.am[i]? = some c) : c.natAbs ≤ 1000000 := h c (List.mem_of_getElem? e)
section
variable {P : Program} {w : World} {K : PySem.W.Frag} {mg : Str → Option Value} {base : Heap} {aW aT : Addr} {es : Array DictEntry} {nn : Nat}
abbrev s_top_of : Stmt := topS 35
abbrev n_top_of : List Str := ["item", "box", "top", "times", "low", "high"]
theorem sc_top_of : FnScope n_top_of ["item", "box"] (defScope s_top_of) := ⟨rfl, rfl, rfl, by decide +kernel, rfl, by decide +kernel, by decide +kernel⟩
def spTop : Sp := fun vs H Q _ => ∃ (v b : V) (r : Row) (box : List Fr), vs = [v, b] ∧ RV H v r ∧ SV H b box ∧ r.am.length = box.length ∧ Am r ∧ ∀ H', Same H H' → Q (.int (topF r.am box)) H'
theorem ok_top_of {f : Addr} {fd : FuncData} (F : Fun K "top_of" "top_of" s_top_of f fd) (T : Txt K mg w aW aT es nn) : FnOk P w K mg base CX0 1 f fd ["item", "box"] spTop := by
  refine F.ok sc_top_of (fun vs H Q E h => ?_) (fun cdv A outer s H vs Q E hr h => ?_)
  · obtain ⟨v, b, r, box, rfl, _⟩ := h
    rfl
  · obtain ⟨v, b, r, box, rfl, ⟨p, qa, rfl, hp, hqa⟩, ⟨pb, us, rfl, hpb, al⟩, ln, sa, q⟩ := h
    have lu := al.len
    refine ⟨_, (pss_cons (ps_set (i := 2) sc_top_of.nd rfl (.inl rfl) pe_int)
      (pss_cons (ps_for PassesOwn.never rfl (RZ.pi_zipA (by rfl) T.b_zip (pa_cons (pe_ix ix_tup (pv 0) pe_int (fun _ _ => rfl)) (pa_cons (pv 1) pa_nil))) (pg_tup rfl (pgs_cons (pg_name (i := 3) sc_top_of.nd rfl (.inl rfl)) (pgs_cons (pg_tup rfl (pgs_cons (pg_name (i := 4) sc_top_of.nd rfl (.inl rfl)) (pgs_cons (pg_name (i := 5) sc_top_of.nd rfl (.inl rfl)) pgs_nil))) pgs_nil))) (pss_one (ps_aug (i := 2) sc_top_of.nd rfl (.inl rfl) (pe_op op_mul (pv 3) (pe_ifExp (pt_cmpR op_gt (pv 3) pe_int (nomark _)) (pv 5) (pv 4))) ip_add)))
      (pss_one (ps_ret (pv 2))))), ?_⟩
    refine ⟨_, rfl, p, _, 1, _, rfl, rfl, sq_tup hp, rfl, _, rfl, qa, pb, _, _, rfl, .inr ⟨sq_tup hqa, sq_tup hpb, RZ.for_zipT (K := K) (a := qa) (b := pb) (xs := r.am.map V.int) (ys := us) (by rw [List.length_map]; omega)
      (fun i σ H' => ∃ (y3 y4 y5 : Option V), σ = [some (.ref p), some (.ref pb), some (.int (topT ((r.am.zip box).take i))), y3, y4, y5] ∧ Same H H')
      ⟨none, none, none, rfl, Same.refl _⟩ (fun i σ H' h => ?_) (fun i c y T σ H' hc hy h nT => ?_) (fun σ H' h => ?_)⟩⟩
    · obtain ⟨y3, y4, y5, rfl, sm⟩ := h
      exact ⟨sq_tup (sm _ _ hqa), sq_tup (sm _ _ hpb)⟩
    · obtain ⟨y3, y4, y5, rfl, sm⟩ := h
      obtain ⟨c, hc', rfl⟩ := at_map hc
      obtain ⟨pr, hpr, pp, rfl, hpp⟩ := al.at_ hy
      have sT : Same H (upd H' T (.tup [.int c, .ref pp])) := same_at sm (sm.free nT)
      have sc := am_at sa hc'
      have tk := take_one (zip_at hc' hpr)
      have fin : ∀ e : Int, e = cor (c, pr) → ∃ y3 y4 y5 : Option V, [some (V.ref p), some (.ref pb), some (.int (topT ((r.am.zip box).take i) + c * e)), some (.int c), some (.int pr.1), some (.int pr.2)] = [some (V.ref p), some (.ref pb), some (.int (topT ((r.am.zip box).take (i + 1)))), y3, y4, y5] ∧ Same H (upd H' T (.tup [.int c, .ref pp])) := fun e he => by
        refine ⟨some (.int c), some (.int pr.1), some (.int pr.2), ?_, sT⟩
        rw [tk, topT_app, he]
      refine ⟨T, _, rfl, sq_tup upd_same, rfl, _, _, rfl, _, _, rfl, pp, _, rfl, sq_tup (sT _ _ hpp), rfl, _, _, rfl, _, _, rfl, rfl, rfl, ?_⟩
      refine ⟨_, rfl, _, rfl, _, rfl, _, _, rfl, rfl, _, rfl, ite2 (fun h0 => ?_) (fun h0 => ?_)⟩
      · refine ⟨_, rfl, _, _, rfl, rfl, .inl ⟨by omega, by omega⟩, _, _, rfl, rfl, ?_⟩
        exact fin _ (by unfold cor; rw [if_pos (of_decide_eq_true h0)])
      · refine ⟨_, rfl, _, _, rfl, rfl, .inl ⟨by omega, by omega⟩, _, _, rfl, rfl, ?_⟩
        exact fin _ (by unfold cor; rw [if_neg (fun z => h0 (decide_eq_true z))])
    · obtain ⟨y3, y4, y5, rfl, sm⟩ := h
      refine ⟨_, rfl, ?_⟩
      rw [List.take_of_length_le (by rw [List.length_map, List.length_zip]; omega)]
      exact q _ sm
end
end M66

namespace M66
open PySem PySem.Spec PyProof.Rows L2 SX Own Gd
open C8 (Cal pe_c pe_gc pe_mk Mak pss_cut)
/-- values that are no whole numbers, or are -/
def WhV (K : PySem.W.Frag) (H : Hp) (x : V) (b : Bool) : Prop := ∃ t b1 b2, TyE K H x t ∧ PySem.W.kitOne K t (.type "int") = some b1 ∧ PySem.W.kitOne K t (.type "bool") = some b2 ∧ b = (b1 && !b2)
theorem WhV.int {K : PySem.W.Frag} {H : Hp} (i : Int) : WhV K H (.int i) true := ⟨.type "int", true, false, .base (.base (.int i)), by rfl, by rfl, rfl⟩
/-- values that are not the number of an either -/
def Nint (H : Hp) (x : V) : Prop := x = .non ∨ (∃ b, x = .bl b) ∨ (∃ s, x = .str s) ∨ ∃ p us, x = .ref p ∧ H p = some (.tup us)
theorem Nint.wh {K : PySem.W.Frag} {H : Hp} {x : V} (h : Nint H x) : WhV K H x false := by
  rcases h with rfl | ⟨b, rfl⟩ | ⟨s, rfl⟩ | ⟨p, us, rfl, e⟩
  · exact ⟨_, _, _, .base (.base .non), by rfl, by rfl, rfl⟩
  · exact ⟨_, _, _, .base (.base (.bl b)), by rfl, by rfl, rfl⟩
  · exact ⟨_, _, _, .base (.base (.str s)), by rfl, by rfl, rfl⟩
  · exact ⟨_, _, _, .base (.base (.tup e)), by rfl, by rfl, rfl⟩
def Odd (H : Hp) (wl : List Wish) (x : V) : Prop := Nint H x ∨ ∃ i : Int, x = .int i ∧ (i < 0 ∨ (wl.length : Int) ≤ i ∨ ∃ (j : Nat) (r : Row), i = (j : Int) ∧ wl[j]? = some (.sum r))
theorem WVs.at2 {H : Hp} {vs : List V} {as : List Wish} {i : Nat} {a : Wish} (h : WVs H vs as) (e : as[i]? = some a) : ∃ v, vs[i]? = some v ∧ WV H v a := by
  have hi : i < vs.length := by rw [h.len]; exact (List.getElem?_eq_some_iff.mp e).1
  obtain ⟨a', e', g⟩ := h.at_ (List.getElem?_eq_getElem hi)
  rw [e] at e'
  cases e'
  exact ⟨_, List.getElem?_eq_getElem hi, g⟩
theorem Nint.tk {H H' : Hp} {x : V} (h : Nint H x) (s : TK H H') : Nint H' x := by
  rcases h with h | h | h | ⟨p, us, e, g⟩
  · exact .inl h
  · exact .inr (.inl h)
  · exact .inr (.inr (.inl h))
  · exact .inr (.inr (.inr ⟨p, us, e, s _ _ g⟩))
theorem Odd.tk {H H' : Hp} {wl : List Wish} {x : V} (h : Odd H wl x) (s : TK H H') : Odd H' wl x := h.elim (fun h => .inl (h.tk s)) .inr
section
variable {P : Program} {w : World} {K : PySem.W.Frag} {mg : Str → Option Value} {base : Heap} {aW aT : Addr} {es : Array DictEntry} {nn : Nat}
def spWh (K : PySem.W.Frag) : Sp := fun vs H Q _ => ∃ (x : V) (b : Bool), vs = [x] ∧ WhV K H x b ∧ Q (.bl b) H
theorem ok_is_wholeV {f : Addr} {fd : FuncData} (F : Fun K "is_whole" "is_whole" s_is_whole f fd) (T : Txt K mg w aW aT es nn) : FnOk P w K mg base CX0 1 f fd ["value"] (spWh K) := by
  refine F.ok sc_is_whole (fun vs H Q E h => ?_) (fun cdv A outer s H vs Q E hr h => ?_)
  · obtain ⟨x, b, rfl, _⟩ := h
    rfl
  · obtain ⟨x, b, rfl, ⟨t, b1, b2, ty, k1, k2, rfl⟩, q⟩ := h
    refine ⟨_, (pss_one (ps_ret (pe_and (pe_callB call_isE (by rfl) T.b_isinstance (by decide +kernel) (pa_cons (pv 0) (pa_cons (pe_bltn (v := .ty "int") (by rfl) T.b_int boot_int rfl) pa_nil))) (pe_one (pe_not (pe_callB call_isE (by rfl) T.b_isinstance (by decide +kernel) (pa_cons (pv 0) (pa_cons (pe_bltn (v := .ty "bool") (by rfl) T.b_bool boot_bool rfl) pa_nil)))))))), ?_⟩
    refine ⟨_, rfl, x, t, "int", b1, rfl, ty, k1, b1, rfl, ?_⟩
    cases b1 with
    | false => exact iteF q
    | true => exact iteT ⟨_, rfl, x, t, "bool", b2, rfl, ty, k2, b2, rfl, q⟩
abbrev s_is_number : Stmt := topS 6
abbrev n_is_number : List Str := ["value"]
theorem sc_is_number : FnScope n_is_number ["value"] (defScope s_is_number) := ⟨rfl, rfl, rfl, by decide +kernel, rfl, by decide +kernel, by decide +kernel⟩
def spNum (K : PySem.W.Frag) : Sp := fun vs H Q _ => ∃ (x : V), vs = [x] ∧ ((∃ i : Int, x = .int i ∧ Q (.bl (decide (0 ≤ i))) H) ∨ (WhV K H x false ∧ Q (.bl false) H))
theorem ok_is_number {f : Addr} {fd : FuncData} (F : Fun K "is_number" "is_number" s_is_number f fd) (T : Txt K mg w aW aT es nn) (c_is_whole : Cal P w K mg base 1 "is_whole" (spWh K) []) : FnOk P w K mg base CX0 2 f fd ["value"] (spNum K) := by
  refine F.ok sc_is_number (fun vs H Q E h => ?_) (fun cdv A outer s H vs Q E hr h => ?_)
  · obtain ⟨x, rfl, _⟩ := h
    rfl
  · obtain ⟨x, rfl, h⟩ := h
    refine ⟨_, (pss_one (ps_ret (pe_and (pe_c c_is_whole hr (by decide) (by rfl) (pa_cons (pv 0) pa_nil)) (pe_one (pe_cmpR op_ge (pv 0) pe_int (nomark _)))))), ?_⟩
    rcases h with ⟨i, rfl, q⟩ | ⟨wh, q⟩
    · exact ⟨_, rfl, .int i, true, rfl, .int i, true, rfl, iteT ⟨_, rfl, _, _, rfl, rfl, q⟩⟩
    · exact ⟨_, rfl, x, false, rfl, wh, false, rfl, iteF q⟩
abbrev s_checked_wish : Stmt := topS 8
abbrev n_checked_wish : List Str := ["task", "number", "kinds"]
theorem sc_checked_wish : FnScope n_checked_wish ["task", "number", "kinds"] (defScope s_checked_wish) := ⟨rfl, rfl, rfl, by decide +kernel, rfl, by decide +kernel, by decide +kernel⟩
def spChk (C CR : Addr) : Sp := fun vs H Q E => ∃ (tv x : V) (kp : Addr) (ul : List Unk) (wl : List Wish) (goal : List Int), vs = [tv, x, .ref kp] ∧ TaskV C H tv ul wl goal ∧ wl.length ≤ 100 ∧ H kp = some (.tup [.str "either"]) ∧
  ((∃ (k : Nat) (rs : List Row), x = .int k ∧ wl[k]? = some (.either rs) ∧ ∀ v, WV H v (.either rs) → Q v H) ∨ (Odd H wl x ∧ ∀ d H2, Same H H2 → H2 d = some (.xd [("word", .str "wish")]) → E (.ref CR) (some d) H2))
theorem ok_checked_wish {f C CR : Addr} {fd : FuncData} (F : Fun K "checked_wish" "checked_wish" s_checked_wish f fd) (T : Txt K mg w aW aT es nn) (cc : CC K C) (e_Refused : ExK P w K mg base "Refused" CR) (c_is_number : Cal P w K mg base 2 "is_number" (spNum K) []) : FnOk P w K mg base (L2.CX P w) 3 f fd ["task", "number", "kinds"] (spChk C CR) := by
  refine F.okX sc_checked_wish (fun vs H Q E h => ?_) (fun cdv A outer s H vs Q E hr h => ?_)
  · obtain ⟨tv, x, kp, ul, wl, goal, rfl, _⟩ := h
    rfl
  · obtain ⟨tv, x, kp, ul, wl, goal, rfl, tk0, lw, hkp, h⟩ := h
    obtain ⟨xa, dx, pu, pw, pg, us, ws, rfl, hx, hpu, uv, hpw, wv, hpg⟩ := id tk0
    have lws := wv.len
    refine ⟨_, (pss_cons (ps_if (PW.pt (pw_or (pt_not (pt_val (pe_c c_is_number hr (by decide) (by rfl) (pa_cons (pv 1) pa_nil)))) (pw_or (pt_cmpR op_ge (pv 1) (pe_callB call_len_seq (by rfl) T.b_len (by decide +kernel) (pa_cons (pe_fld (pv 0) (by rfl)) pa_nil)) (nomark _)) (pw_or1 (pt_cmpR op_notIn_seq (pe_ix ix_tup (pe_ix ix_tup (pe_fld (pv 0) (by rfl)) (pv 1) (fun _ _ => rfl)) pe_int (fun _ _ => rfl)) (pv 2) (by rfl)))))) (pss_one (ps_raiseE rfl (takes_of rfl rfl rfl rfl) e_Refused hr (by decide) (by rfl) pe_str)) pss_nil)
      (pss_one (ps_ret (pe_ix ix_tup (pe_fld (pv 0) (by rfl)) (pv 1) (fun _ _ => rfl))))), ?_⟩
    rcases h with ⟨k, rs, rfl, hk, fin⟩ | ⟨odd, fin⟩
    · have lk : k < wl.length := (List.getElem?_eq_some_iff.mp hk).1
      obtain ⟨v, hv, wvv⟩ := wv.at2 hk
      obtain ⟨p, u, rfl, hp, rv⟩ := id wvv
      refine ⟨_, rfl, .int (k : Nat), rfl, .inl ⟨(k : Int), rfl, ?_⟩⟩
      rw [decide_eq_true (show (0 : Int) ≤ (k : Nat) by omega)]
      refine ⟨true, rfl, iteF ?_⟩
      refine ⟨_, rfl, _, rfl, xa, C, dx, _, _, rfl, hx, cc.cl, cc.nw, lk_w _ _ _, pw, _, rfl, .inr (sq_tup hpw), _, _, rfl, rfl, _, rfl, ite2 (fun z => absurd (of_decide_eq_true z) (by omega)) (fun _ => ?_)⟩
      refine ⟨_, rfl, xa, C, dx, _, _, rfl, hx, cc.cl, cc.nw, lk_w _ _ _, _, rfl, pw, _, (k : Int), .ref p, rfl, rfl, sq_tup hpw, atI_nat hv, p, _, 0, .str "either", rfl, rfl, sq_tup hp, rfl, _, rfl, kp, _, rfl, .inr (sq_tup hkp), rfl, by decide, _, rfl, ite2 (fun z => absurd z (by decide)) (fun _ => ?_)⟩
      exact ⟨_, rfl, xa, C, dx, _, _, rfl, hx, cc.cl, cc.nw, lk_w _ _ _, _, rfl, pw, _, (k : Int), .ref p, rfl, rfl, sq_tup hpw, atI_nat hv, fin _ wvv⟩
    · have rais := fun (H' : Hp) (sm : Same H H') => mkE_of e_Refused.oex e_Refused.noW fun d H2 sm2 e => fin d H2 (sm.trans sm2) e
      rcases odd with wh | ⟨i, rfl, hi⟩
      · refine ⟨_, rfl, x, rfl, .inr ⟨wh.wh, false, rfl, iteT ?_⟩⟩
        exact mkE_of e_Refused.oex e_Refused.noW fun d H2 sm e => fin d H2 sm e
      · refine ⟨_, rfl, .int i, rfl, .inl ⟨i, rfl, ?_⟩⟩
        by_cases h0 : (0 : Int) ≤ i
        · rw [decide_eq_true h0]
          refine ⟨true, rfl, iteF ?_⟩
          refine ⟨_, rfl, _, rfl, xa, C, dx, _, _, rfl, hx, cc.cl, cc.nw, lk_w _ _ _, pw, _, rfl, .inr (sq_tup hpw), _, _, rfl, rfl, _, rfl, ite2 (fun z => ?_) (fun z => ?_)⟩
          · exact mkE_of e_Refused.oex e_Refused.noW fun d H2 sm e => fin d H2 sm e
          · have z : ¬ ((ws.length : Nat) : Int) ≤ i := fun y => z (decide_eq_true y)
            rcases hi with hi | hi | ⟨j, r, rfl, hj⟩
            · exact absurd h0 (by omega)
            · exact absurd (show ((ws.length : Nat) : Int) ≤ i by omega) z
            · obtain ⟨v, hv, wvv⟩ := wv.at2 hj
              obtain ⟨p, u, rfl, hp, rv⟩ := id wvv
              refine ⟨_, rfl, xa, C, dx, _, _, rfl, hx, cc.cl, cc.nw, lk_w _ _ _, _, rfl, pw, _, (j : Int), .ref p, rfl, rfl, sq_tup hpw, atI_nat hv, p, _, 0, .str "sum", rfl, rfl, sq_tup hp, rfl, _, rfl, kp, _, rfl, .inr (sq_tup hkp), rfl, by decide, _, rfl, ite2 (fun _ => ?_) (fun z => absurd (by decide) z)⟩
              exact mkE_of e_Refused.oex e_Refused.noW fun d H2 sm e => fin d H2 sm e
        · rw [decide_eq_false h0]
          refine ⟨false, rfl, iteT ?_⟩
          exact mkE_of e_Refused.oex e_Refused.noW fun d H2 sm e => fin d H2 sm e
abbrev s_sums_of : Stmt := topS 37
abbrev n_sums_of : List Str := ["task", "number"]
theorem sc_sums_of : FnScope n_sums_of ["task", "number"] (defScope s_sums_of) := ⟨rfl, rfl, rfl, by decide +kernel, rfl, by decide +kernel, by decide +kernel⟩
def spSums (C CR : Addr) : Sp := fun vs H Q E => ∃ (tv x : V) (ul : List Unk) (wl : List Wish) (goal : List Int), vs = [tv, x] ∧ TaskV C H tv ul wl goal ∧ wl.length ≤ 100 ∧
  ((∃ (k : Nat) (rs : List Row), x = .int k ∧ wl[k]? = some (.either rs) ∧ ∀ H' v, Same H H' → RsV H' v rs → Q v H') ∨ (Odd H wl x ∧ ∀ d H2, Same H H2 → H2 d = some (.xd [("word", .str "wish")]) → E (.ref CR) (some d) H2))
theorem ok_sums_of {f C CR : Addr} {fd : FuncData} (F : Fun K "_sums_of" "_sums_of" s_sums_of f fd) (T : Txt K mg w aW aT es nn) (x_checked_wish : CalX P w K mg base 3 "checked_wish" (spChk C CR)) : FnOk P w K mg base (L2.CX P w) 4 f fd ["task", "number"] (spSums C CR) := by
  refine F.okX sc_sums_of (fun vs H Q E h => ?_) (fun cdv A outer s H vs Q E hr h => ?_)
  · obtain ⟨tv, x, ul, wl, goal, rfl, _⟩ := h
    rfl
  · obtain ⟨tv, x, ul, wl, goal, rfl, tk0, lw, h⟩ := h
    refine ⟨_, (pss_one (ps_ret (pe_ix ix_tup (pe_xE (E := E) (passes_call (takes_of rfl rfl rfl rfl) fun _ _ _ _ z => z) x_checked_wish hr (by decide) (by rfl) (pa_cons (pv 0) (pa_cons (pv 1) (pa_cons (pe_tup (pa_cons pe_str pa_nil)) pa_nil)))) pe_int (fun _ _ => rfl)))), ?_⟩
    refine ⟨_, rfl, _, rfl, len1, fun kp nkp => ?_⟩
    have sm := same_upd (o := .tup [.str "either"]) nkp
    refine ⟨tv, x, kp, ul, wl, goal, rfl, same_tv tk0 sm, lw, upd_same, ?_⟩
    rcases h with ⟨k, rs, rfl, hk, fin⟩ | ⟨odd, fin⟩
    · refine .inl ⟨k, rs, rfl, hk, fun v wv => ?_⟩
      obtain ⟨p, u, rfl, hp, rv⟩ := wv
      exact ⟨p, _, 1, u, rfl, rfl, sq_tup hp, rfl, fin _ u sm rv⟩
    · exact .inr ⟨odd.tk (.of sm), fun d H2 sm2 e => fin d H2 (sm.trans sm2) e⟩
/-- the numbers of the open rows -/
def rowAt (rs : List Row) (i : Nat) : Row := rs.getD i ⟨[], false, 0⟩
theorem rowAt_of {rs : List Row} {i : Nat} {r : Row} (h : rs[i]? = some r) : rowAt rs i = r := by
  unfold rowAt
  rw [List.getD_eq_getElem?_getD, h]; rfl
def opP (rs : List Row) (box : List Fr) (i : Nat) : Bool := decide ((rowAt rs i).bd ≤ topF (rowAt rs i).am box)
def opn (rs : List Row) (box : List Fr) : List Nat := (List.range rs.length).filter (opP rs box)
def natI (l : List Nat) : List Int := l.map fun i : Nat => (i : Int)
/-- rows that fit a box -/
def RsOk (rs : List Row) (n : Nat) : Prop := rs.length ≤ 6 ∧ ∀ r ∈ rs, r.am.length = n ∧ Am r
theorem filter_range_succ {f : Nat → Bool} {i : Nat} : (List.range (i + 1)).filter f = (List.range i).filter f ++ if f i then [i] else [] := by
  rw [List.range_succ, List.filter_append]
  simp [List.filter_cons]
abbrev s_open_sums : Stmt := topS 38
abbrev n_open_sums : List Str := ["task", "number", "box", "at", "item"]
theorem sc_open_sums : FnScope n_open_sums ["task", "number", "box"] (defScope s_open_sums) := ⟨rfl, rfl, rfl, by decide +kernel, rfl, by decide +kernel, by decide +kernel⟩
def spOpen (C CR : Addr) : Sp := fun vs H Q E => ∃ (tv x b : V) (ul : List Unk) (wl : List Wish) (goal : List Int) (box : List Fr), vs = [tv, x, b] ∧ TaskV C H tv ul wl goal ∧ wl.length ≤ 100 ∧
  ((∃ (k : Nat) (rs : List Row), x = .int k ∧ wl[k]? = some (.either rs) ∧ SV H b box ∧ RsOk rs box.length ∧ ∀ H' v, Same H H' → LV H' v (natI (opn rs box)) → Q v H') ∨ (Odd H wl x ∧ ∀ d H2, Same H H2 → H2 d = some (.xd [("word", .str "wish")]) → E (.ref CR) (some d) H2))
theorem ok_open_sums {f C CR : Addr} {fd : FuncData} (F : Fun K "open_sums" "open_sums" s_open_sums f fd) (T : Txt K mg w aW aT es nn) (x_sums_of : CalX P w K mg base 4 "_sums_of" (spSums C CR)) (c_top_of : Cal P w K mg base 1 "top_of" spTop []) : FnOk P w K mg base (L2.CX P w) 5 f fd ["task", "number", "box"] (spOpen C CR) := by
  refine F.okX sc_open_sums (fun vs H Q E h => ?_) (fun cdv A outer s H vs Q E hr h => ?_)
  · obtain ⟨tv, x, b, ul, wl, goal, box, rfl, _⟩ := h
    rfl
  · obtain ⟨tv, x, b, ul, wl, goal, box, rfl, tk0, lw, h⟩ := h
    refine ⟨_, (pss_one (ps_ret (pe_callTy call_tuple_of (by rfl) T.b_tuple (by decide +kernel) (pa_cons (pe_lc (own := [("at", 3), ("item", 4)]) (g := gTup K 2 (gCons (gName 3) (gCons (gName 4) gNil))) rfl sc_open_sums.nd (pi_enT (by rfl) T.b_enumerate (pa_cons (pe_xE (E := E) (passes_call (takes_of rfl rfl rfl rfl) fun _ _ _ _ z => z) x_sums_of hr (by decide) (by rfl) (pa_cons (pv 0) (pa_cons (pv 1) pa_nil))) pa_nil)) (blkOk_by (N := n_open_sums) (sc := defScope s_open_sums) (by decide +kernel)) (fun _ _ _ _ _ => (pg_tup rfl (pgs_cons (pg_name (i := 3) sc_open_sums.nd rfl (.inl rfl)) (pgs_cons (pg_name (i := 4) sc_open_sums.nd rfl (.inl rfl)) pgs_nil)))) (fun _ _ _ _ _ => (pts_one (pt_cmpR op_ge (pe_c c_top_of hr (by decide) (by rfl) (pa_cons (pv 4) (pa_cons (pv 2) pa_nil))) (pe_ix (r := rIxT K) ix_tup (pv 4) pe_int (fun _ _ => rfl)) (nomark _)))) (fun _ _ _ _ _ => (pv 3))) pa_nil)))), ?_⟩
    rcases h with ⟨k, rs, rfl, hk, bv, ok, fin⟩ | ⟨odd, fin⟩
    · refine ⟨_, rfl, _, rfl, tv, _, ul, wl, goal, rfl, tk0, lw, .inl ⟨k, rs, rfl, hk, fun H1 v s1 rv => ?_⟩⟩
      obtain ⟨pr, us, rfl, hpr, al⟩ := rv
      have lu := al.len
      have bv1 := bv.same s1
      have l6 := ok.1
      refine ⟨pr, _, rfl, sq_tup hpr, fun D nD => ?_⟩
      refine lc_it walk_enT (fun i H' => H' D = some (tL (natI ((List.range i).filter (opP rs box)))) ∧ Same H1 H') ⟨upd_same, same_upd nD⟩ (fun i H' _ h => sq_tup (h.2 _ _ hpr)) ?_ ?_
      · rintro i x1 H2 H3 hi ⟨hD, sm⟩ ⟨T', k1, w1, rfl, nT, rfl, hk1, hw⟩
        cases hk1
        obtain ⟨r, hr', rv⟩ := al.at_ hw
        obtain ⟨lr, ar⟩ := ok.2 r (List.mem_of_getElem? hr')
        have rvv := rv
        obtain ⟨p, qa, rfl, hp, hqa⟩ := rv
        have sT := same_at (o := .tup [.int (i : Nat), .ref p]) sm (sm.free nT)
        have hDT : upd H2 T' (.tup [.int (i : Nat), .ref p]) D = some _ := same_upd nT _ _ hD
        refine ⟨T', _, rfl, sq_tup upd_same, rfl, _, _, rfl, _, _, rfl, rfl, rfl, ?_⟩
        refine ⟨_, rfl, _, rfl, .ref p, b, r, box, rfl, rvv.same sT, bv1.same sT, lr, ar, fun H4 s4 => ?_⟩
        have sT4 := sT.trans s4
        refine ⟨_, rfl, p, _, 3, .int r.bd, rfl, rfl, sq_tup (sT4 _ _ hp), rfl, _, _, rfl, rfl, _, rfl, ?_⟩
        have eo : opP rs box i = decide (r.bd ≤ topF r.am box) := by unfold opP; rw [rowAt_of hr']
        have D4 := s4 _ _ hDT
        refine ite2 (fun h0 => ?_) (fun h0 => ?_)
        · have ln : (natI ((List.range i).filter (opP rs box))).length ≤ i := by
            unfold natI
            rw [List.length_map]
            exact Nat.le_trans (List.length_filter_le ..) (by rw [List.length_range]; exact Nat.le_refl _)
          refine ⟨_, rfl, _, D4, (by rw [List.length_map]; exact small1000 (by omega)), ?_, same_at sT4 nD⟩
          rw [upd_same, filter_range_succ, eo, if_pos h0]
          unfold natI tL
          rw [List.map_append, List.map_append]; rfl
        · refine ⟨?_, sT4⟩
          rw [D4, filter_range_succ, eo, if_neg h0, List.append_nil]
      · rintro H2 ⟨hD, sm⟩
        rw [lu] at hD
        exact ⟨D, _, rfl, .inl ⟨sq_lst hD, fun l nl => fin _ _ (s1.trans (sm.trans (same_upd nl))) ⟨l, rfl, upd_same⟩⟩⟩
    · exact ⟨_, rfl, _, rfl, tv, x, ul, wl, goal, rfl, tk0, lw, .inr ⟨odd, fin⟩⟩
end
end M66

namespace M66
open PySem PySem.Spec PyProof.Rows L2 SX Own Gd
open C8 (Cal pe_c pe_gc pe_mk Mak pss_cut)
/-! ### the law's sums -/
def mulP (p : Int × Int) : Int := p.1 * p.2
theorem dot_zip : ∀ (a x : List Int), dot a x = ((a.zip x).map mulP).sum
  | [], _ => rfl
  | _ :: _, [] => rfl
  | c :: a, y :: x => by
    rw [List.zip_cons_cons, List.map_cons, List.sum_cons, ← dot_zip a x]; rfl
def Am6 (a : List Int) : Prop := ∀ c ∈ a, c.natAbs ≤ 1000000
def topP (p : Int × Fr) : Int := p.1 * cor p
def keptR (x : List Int) (r : Row) : Bool := decide (r.bd ≤ dot r.am x)
def keptF (rs : List Row) (x : List Int) : Bool := rs.any (keptR x)
def lowR (box : List Fr) (r : Row) : Bool := decide (topF r.am box < r.bd)
def noTop (rs : List Row) (box : List Fr) : Bool := rs.all (lowR box)
theorem at_cor (c : Int) (q : Fr) : atI [V.int q.1, V.int q.2] (if decide (0 < c) = true then 1 else 0) = some (.int (cor (c, q))) := by
  unfold cor
  dsimp only
  by_cases h : 0 < c
  · rw [if_pos (decide_eq_true h), if_pos h]; rfl
  · rw [if_neg (fun z => h (of_decide_eq_true z)), if_neg h]; rfl
section
variable {P : Program} {w : World} {K : PySem.W.Frag} {mg : Str → Option Value} {base : Heap} {aW aT : Addr} {es : Array DictEntry} {nn : Nat}
abbrev s_Ltotal : Stmt := topS 50
abbrev n_Ltotal : List Str := ["amounts", "point", "amount", "value"]
theorem sc_Ltotal : FnScope n_Ltotal ["amounts", "point"] (defScope s_Ltotal) := ⟨rfl, rfl, rfl, by decide +kernel, rfl, by decide +kernel, by decide +kernel⟩
def spTotal : Sp := fun vs H Q _ => ∃ (av xv : V) (a x : List Int), vs = [av, xv] ∧ LV H av a ∧ LV H xv x ∧ x.length = a.length ∧ a.length ≤ 100 ∧ Am6 a ∧ ∀ H', Same H H' → Q (.int (dot a x)) H'
theorem ok_Ltotal {f : Addr} {fd : FuncData} (F : Fun K "_law_total" "_law_total" s_Ltotal f fd) (T : Txt K mg w aW aT es nn) : FnOk P w K mg base CX0 1 f fd ["amounts", "point"] spTotal := by
  refine F.ok sc_Ltotal (fun vs H Q E h => ?_) (fun cdv A outer s H vs Q E hr h => ?_)
  · obtain ⟨av, xv, a, x, rfl, _⟩ := h
    rfl
  · obtain ⟨av, xv, a, x, rfl, ⟨pa, rfl, hpa⟩, ⟨px, rfl, hpx⟩, ln, l100, sa, fin⟩ := h
    refine ⟨_, (pss_one (ps_ret (pe_callB (cr_sum rfl) (by rfl) T.b_sum (by decide +kernel) (pa_cons (pe_lc (own := [("amount", 2), ("value", 3)]) (g := (gTup K 2 (gCons (gName 2) (gCons (gName 3) gNil)))) rfl sc_Ltotal.nd (RZ.pi_zipA (by rfl) T.b_zip (pa_cons (pv 0) (pa_cons (pv 1) pa_nil))) (blkOk_by (N := n_Ltotal) (sc := defScope s_Ltotal) (by decide +kernel)) (fun _ _ _ _ _ => (pg_tup rfl (pgs_cons (pg_name (i := 2) sc_Ltotal.nd rfl (.inl rfl)) (pgs_cons (pg_name (i := 3) sc_Ltotal.nd rfl (.inl rfl)) pgs_nil)))) (fun _ _ _ _ _ => pts_nil) (fun _ _ _ _ _ => (pe_op op_mul (pv 2) (pv 3)))) pa_nil)))), ?_⟩
    refine ⟨_, rfl, _, rfl, pa, px, _, _, rfl, .inr ⟨sq_tup hpa, sq_tup hpx, fun D nD => ?_⟩⟩
    refine lc_zipM (K := K) (a := pa) (b := px) (xs := a.map V.int) (ys := x.map V.int) a.length (by rw [List.length_map, List.length_map, ln, Nat.min_self])
      (fun i H' => H' D = some (tL (((a.zip x).take i).map mulP)) ∧ Same H H') ⟨upd_same, same_upd nD⟩ (fun i H' h => ⟨sq_tup (h.2 _ _ hpa), sq_tup (h.2 _ _ hpx)⟩) ?_ ?_
    · rintro i c y T' H4 hc hy ⟨hD, sm⟩ nT
      obtain ⟨c, hc', rfl⟩ := at_map hc
      obtain ⟨y, hy', rfl⟩ := at_map hy
      have sT := same_at (o := .tup [.int c, .int y]) sm (sm.free nT)
      have DT : D ≠ T' := ne_of_none hD nT
      have bc := sa c (List.mem_of_getElem? hc')
      have li := (List.getElem?_eq_some_iff.mp hc').1
      refine ⟨T', _, rfl, sq_tup upd_same, rfl, _, _, rfl, _, _, rfl, rfl, rfl, ?_⟩
      refine ⟨_, rfl, _, rfl, _, _, rfl, rfl, .inl ⟨by omega, by omega⟩, _, (by rw [upd_ne DT]; exact hD), small1000 (by rw [List.length_map, List.length_map, List.length_take]; omega), ?_, same_at sT nD⟩
      rw [upd_same, take_one (zip_at hc' hy'), List.map_append]
      unfold tL
      rw [List.map_append]; rfl
    · rintro H4 ⟨hD, sm⟩
      rw [List.take_of_length_le (by rw [List.length_zip]; omega)] at hD
      refine ⟨D, _, rfl, sq_lst hD, ?_⟩
      rw [← dot_zip]
      exact fin _ sm
abbrev s_Ltop : Stmt := topS 51
abbrev n_Ltop : List Str := ["amounts", "box", "at"]
theorem sc_Ltop : FnScope n_Ltop ["amounts", "box"] (defScope s_Ltop) := ⟨rfl, rfl, rfl, by decide +kernel, rfl, by decide +kernel, by decide +kernel⟩
def spLtop : Sp := fun vs H Q _ => ∃ (av b : V) (a : List Int) (box : List Fr), vs = [av, b] ∧ LV H av a ∧ SV H b box ∧ a.length = box.length ∧ a.length ≤ 100 ∧ Am6 a ∧ ∀ H', Same H H' → Q (.int (topF a box)) H'
theorem ok_Ltop {f : Addr} {fd : FuncData} (F : Fun K "_law_top" "_law_top" s_Ltop f fd) (T : Txt K mg w aW aT es nn) : FnOk P w K mg base CX0 1 f fd ["amounts", "box"] spLtop := by
  refine F.ok sc_Ltop (fun vs H Q E h => ?_) (fun cdv A outer s H vs Q E hr h => ?_)
  · obtain ⟨av, b, a, box, rfl, _⟩ := h
    rfl
  · obtain ⟨av, b, a, box, rfl, ⟨pa, rfl, hpa⟩, ⟨pb, bs, rfl, hpb, alb⟩, ln, l100, sa, fin⟩ := h
    have lb := alb.len
    refine ⟨_, (pss_one (ps_ret (pe_callB (cr_sum rfl) (by rfl) T.b_sum (by decide +kernel) (pa_cons (pe_lc (own := [("at", 2)]) rfl sc_Ltop.nd (pi_range1 (by rfl) T.b_range (pa_cons (pe_callB call_len_seq (by rfl) T.b_len (by decide +kernel) (pa_cons (pv 1) pa_nil)) pa_nil)) (blkOk_by (N := n_Ltop) (sc := defScope s_Ltop) (by decide +kernel)) (fun _ _ _ _ _ => (pg_name (i := 2) sc_Ltop.nd rfl (.inl rfl))) (fun _ _ _ _ _ => pts_nil) (fun _ _ _ _ _ => (pe_op op_mul (pe_ix (r := rIxT K) ix_tup (pv 0) (pv 2) (fun _ _ => rfl)) (pe_ix (r := rIxT K) ix_tup (pe_ix (r := rIxT K) ix_tup (pv 1) (pv 2) (fun _ _ => rfl)) (pe_callTy call_int1 (by rfl) T.b_int (by decide +kernel) (pa_cons (pe_cmpR op_gt (pe_ix (r := rIxT K) ix_tup (pv 0) (pv 2) (fun _ _ => rfl)) pe_int (nomark _)) pa_nil)) (fun _ _ => rfl))))) pa_nil)))), ?_⟩
    refine ⟨_, rfl, pb, _, rfl, .inr (sq_tup hpb), _, rfl, by omega, by omega, fun D nD => ?_⟩
    refine lc_range (lo := 0) (n := ((bs.length : Nat) : Int).toNat) (fun i H' => H' D = some (tL (((a.zip box).take i).map topP)) ∧ Same H H') ⟨upd_same, same_upd nD⟩ (fun i H2 hi hI => ?_) (fun H2 hI => ?_)
    · obtain ⟨hD, sm⟩ := hI
      rw [Int.toNat_natCast] at hi
      rw [show ((0 : Int) + (i : Nat)) = (i : Int) by omega]
      have hc : a[i]? = some (a[i]'(by omega)) := List.getElem?_eq_getElem _
      have hq : box[i]? = some (box[i]'(by omega)) := List.getElem?_eq_getElem _
      generalize a[i]'(by omega) = c at *
      generalize box[i]'(by omega) = q at *
      obtain ⟨u, hu, pq, rfl, hpq⟩ := alb.at2 hq
      have bc := sa c (List.mem_of_getElem? hc)
      have hpa2 := sm _ _ hpa
      refine ⟨rfl, _, rfl, _, rfl, pa, _, _, .int c, rfl, rfl, sq_tup hpa2, atI_nat (by rw [List.getElem?_map, hc]; rfl), ?_⟩
      refine ⟨_, rfl, _, rfl, pb, _, _, .ref pq, rfl, rfl, sq_tup (sm _ _ hpb), atI_nat hu, _, rfl, _, rfl, pa, _, _, .int c, rfl, rfl, sq_tup hpa2, atI_nat (by rw [List.getElem?_map, hc]; rfl), _, _, rfl, rfl, .inr ⟨_, rfl, pq, _, _, _, rfl, rfl, sq_tup (sm _ _ hpq), at_cor c q, _, _, rfl, rfl, .inl ⟨by omega, by omega⟩, _, hD, small1000 (by rw [List.length_map, List.length_map, List.length_take]; omega), ?_, same_at sm nD⟩⟩
      rw [upd_same, take_one (zip_at hc hq), List.map_append]
      unfold tL
      rw [List.map_append]; rfl
    · obtain ⟨hD, sm⟩ := hI
      rw [Int.toNat_natCast, List.take_of_length_le (by rw [List.length_zip]; omega)] at hD
      refine ⟨D, _, rfl, sq_lst hD, ?_⟩
      exact fin _ sm
abbrev s_Lkept : Stmt := topS 58
abbrev n_Lkept : List Str := ["sums", "point", "part"]
theorem sc_Lkept : FnScope n_Lkept ["sums", "point"] (defScope s_Lkept) := ⟨rfl, rfl, rfl, by decide +kernel, rfl, by decide +kernel, by decide +kernel⟩
def spKept : Sp := fun vs H Q _ => ∃ (sv xv : V) (rs : List Row) (x : List Int), vs = [sv, xv] ∧ RsV H sv rs ∧ LV H xv x ∧ x.length ≤ 100 ∧ RsOk rs x.length ∧ ∀ H', Same H H' → Q (.bl (keptF rs x)) H'
theorem ok_Lkept {f : Addr} {fd : FuncData} (F : Fun K "_law_kept" "_law_kept" s_Lkept f fd) (T : Txt K mg w aW aT es nn) (c_Ltotal : Cal P w K mg base 1 "_law_total" spTotal []) : FnOk P w K mg base CX0 2 f fd ["sums", "point"] spKept := by
  refine F.ok sc_Lkept (fun vs H Q E h => ?_) (fun cdv A outer s H vs Q E hr h => ?_)
  · obtain ⟨sv, xv, rs, x, rfl, _⟩ := h
    rfl
  · obtain ⟨sv, xv, rs, x, rfl, ⟨ps, us, rfl, hps, als⟩, hx, l100, ok, fin⟩ := h
    have ls := als.len
    refine ⟨_, (pss_one (ps_ret (pe_callB (cr_any rfl) (by rfl) T.b_any (by decide +kernel) (pa_cons (pe_lc (own := [("part", 2)]) rfl sc_Lkept.nd (pi_tup (pv 0)) (blkOk_by (N := n_Lkept) (sc := defScope s_Lkept) (by decide +kernel)) (fun _ _ _ _ _ => (pg_name (i := 2) sc_Lkept.nd rfl (.inl rfl))) (fun _ _ _ _ _ => pts_nil) (fun _ _ _ _ _ => (pe_cmpR op_ge (pe_c c_Ltotal hr (by decide) (by rfl) (pa_cons (pe_ix (r := rIxT K) ix_tup (pv 2) pe_int (fun _ _ => rfl)) (pa_cons (pv 1) pa_nil))) (pe_ix (r := rIxT K) ix_tup (pv 2) pe_int (fun _ _ => rfl)) (nomark _)))) pa_nil)))), ?_⟩
    refine ⟨_, rfl, ps, rfl, ⟨_, sq_tup hps⟩, fun D nD => ?_⟩
    refine lc_tup (K := K) (a := ps) (xs := us) (fun i H' => H' D = some (.lst (((rs.take i).map (keptR x)).map V.bl)) ∧ Same H H') ⟨upd_same, same_upd nD⟩ (fun i H' _ h => sq_tup (h.2 _ _ hps)) ?_ ?_
    · rintro i v H2 hv ⟨hD, sm⟩
      obtain ⟨r, hr', pr, qa, rfl, hpr, hqa⟩ := als.at_ hv
      obtain ⟨lr, ar⟩ := ok.2 r (List.mem_of_getElem? hr')
      have hpr2 := sm _ _ hpr
      have l6 := ok.1
      refine ⟨rfl, _, rfl, pr, _, 1, _, rfl, rfl, sq_tup hpr2, rfl, _, rfl, _, _, r.am, x, rfl, ⟨qa, rfl, sm _ _ hqa⟩, hx.same sm, lr.symm, by omega, ar, fun H3 s3 => ?_⟩
      have hpr3 := s3 _ _ hpr2
      refine ⟨_, rfl, pr, _, 3, _, rfl, rfl, sq_tup hpr3, rfl, _, _, rfl, rfl, _, s3 _ _ hD, small1000 (by rw [List.length_map, List.length_map, List.length_take]; omega), ?_, same_at (sm.trans s3) nD⟩
      rw [upd_same, take_one hr', List.map_append, List.map_append]; rfl
    · rintro H2 ⟨hD, sm⟩
      rw [List.take_of_length_le (by omega)] at hD
      refine ⟨D, _, rfl, sq_lst hD, ?_⟩
      rw [List.any_map]
      exact fin _ sm
abbrev s_Lno_top : Stmt := topS 63
abbrev n_Lno_top : List Str := ["sums", "box", "part"]
theorem sc_Lno_top : FnScope n_Lno_top ["sums", "box"] (defScope s_Lno_top) := ⟨rfl, rfl, rfl, by decide +kernel, rfl, by decide +kernel, by decide +kernel⟩
def spNoTop : Sp := fun vs H Q _ => ∃ (sv b : V) (rs : List Row) (box : List Fr), vs = [sv, b] ∧ RsV H sv rs ∧ SV H b box ∧ box.length ≤ 100 ∧ RsOk rs box.length ∧ ∀ H', Same H H' → Q (.bl (noTop rs box)) H'
theorem ok_Lno_top {f : Addr} {fd : FuncData} (F : Fun K "_law_no_top" "_law_no_top" s_Lno_top f fd) (T : Txt K mg w aW aT es nn) (c_Ltop : Cal P w K mg base 1 "_law_top" spLtop []) : FnOk P w K mg base CX0 2 f fd ["sums", "box"] spNoTop := by
  refine F.ok sc_Lno_top (fun vs H Q E h => ?_) (fun cdv A outer s H vs Q E hr h => ?_)
  · obtain ⟨sv, b, rs, box, rfl, _⟩ := h
    rfl
  · obtain ⟨sv, b, rs, box, rfl, ⟨ps, us, rfl, hps, als⟩, bv, l100, ok, fin⟩ := h
    have ls := als.len
    refine ⟨_, (pss_one (ps_ret (pe_callB (cr_all rfl) (by rfl) T.b_all (by decide +kernel) (pa_cons (pe_lc (own := [("part", 2)]) rfl sc_Lno_top.nd (pi_tup (pv 0)) (blkOk_by (N := n_Lno_top) (sc := defScope s_Lno_top) (by decide +kernel)) (fun _ _ _ _ _ => (pg_name (i := 2) sc_Lno_top.nd rfl (.inl rfl))) (fun _ _ _ _ _ => pts_nil) (fun _ _ _ _ _ => (pe_cmpR op_lt (pe_c c_Ltop hr (by decide) (by rfl) (pa_cons (pe_ix (r := rIxT K) ix_tup (pv 2) pe_int (fun _ _ => rfl)) (pa_cons (pv 1) pa_nil))) (pe_ix (r := rIxT K) ix_tup (pv 2) pe_int (fun _ _ => rfl)) (nomark _)))) pa_nil)))), ?_⟩
    refine ⟨_, rfl, ps, rfl, ⟨_, sq_tup hps⟩, fun D nD => ?_⟩
    refine lc_tup (K := K) (a := ps) (xs := us) (fun i H' => H' D = some (.lst (((rs.take i).map (lowR box)).map V.bl)) ∧ Same H H') ⟨upd_same, same_upd nD⟩ (fun i H' _ h => sq_tup (h.2 _ _ hps)) ?_ ?_
    · rintro i v H2 hv ⟨hD, sm⟩
      obtain ⟨r, hr', pr, qa, rfl, hpr, hqa⟩ := als.at_ hv
      obtain ⟨lr, ar⟩ := ok.2 r (List.mem_of_getElem? hr')
      have hpr2 := sm _ _ hpr
      have l6 := ok.1
      refine ⟨rfl, _, rfl, pr, _, 1, _, rfl, rfl, sq_tup hpr2, rfl, _, rfl, _, _, r.am, box, rfl, ⟨qa, rfl, sm _ _ hqa⟩, bv.same sm, lr, by omega, ar, fun H3 s3 => ?_⟩
      have hpr3 := s3 _ _ hpr2
      refine ⟨_, rfl, pr, _, 3, _, rfl, rfl, sq_tup hpr3, rfl, _, _, rfl, rfl, _, s3 _ _ hD, small1000 (by rw [List.length_map, List.length_map, List.length_take]; omega), ?_, same_at (sm.trans s3) nD⟩
      rw [upd_same, take_one hr', List.map_append, List.map_append]; rfl
    · rintro H2 ⟨hD, sm⟩
      rw [List.take_of_length_le (by omega)] at hD
      refine ⟨D, _, rfl, sq_lst hD, ?_⟩
      rw [List.all_map]
      exact fin _ sm
end
end M66

namespace M66
open PySem PySem.Spec PyProof.Rows L2 SX Own Gd
open C8 (Cal pe_c pe_gc pe_mk Mak pss_cut)
/-! ### drawn amounts and sums -/
theorem mul_pick {c d m : Int} (h1 : c.natAbs ≤ m.natAbs) (h2 : d = 1 ∨ d = 0) : (c * d).natAbs ≤ m.natAbs := by
  rcases h2 with rfl | rfl
  · rw [Int.mul_one]; exact h1
  · rw [Int.mul_zero]; exact Nat.zero_le _
section
variable {P : Program} {w : World} {K : PySem.W.Frag} {mg : Str → Option Value} {base : Heap} {aW aT : Addr} {es : Array DictEntry} {nn : Nat}
abbrev s_Lamounts : Stmt := topS 52
abbrev n_Lamounts : List Str := ["heap", "size", "most", "at", "found"]
theorem sc_Lamounts : FnScope n_Lamounts ["heap", "size", "most"] (defScope s_Lamounts) := ⟨rfl, rfl, rfl, by decide +kernel, rfl, by decide +kernel, by decide +kernel⟩
structure AmOk (n : Nat) (m : Int) (a : List Int) : Prop where
  len : a.length = n
  bd : ∀ c ∈ a, c.natAbs ≤ m.natAbs
  nz : ∃ c ∈ a, c ≠ 0
def spAmounts : Sp := fun vs H Q _ => ∃ (h q : Addr) (n : Nat) (m : Int), vs = [.ref h, .int n, .int m] ∧ HpAt H h q ∧ 1 ≤ n ∧ n ≤ 90 ∧ 1 ≤ m ∧ m ≤ 100000 ∧ ∀ H' v a, HpAt H' h q → Kpt h q H H' → LV H' v a → AmOk n m a → Q v H'
theorem ok_Lamounts {f : Addr} {fd : FuncData} (F : Fun K "_law_amounts" "_law_amounts" s_Lamounts f fd) (T : Txt K mg w aW aT es nn) (c_Ldraw : Cal P w K mg base 1 "_law_draw" spDraw []) (c_Lpick : Cal P w K mg base 2 "_law_pick" spPickL []) : FnOk P w K mg base CX0 3 f fd ["heap", "size", "most"] spAmounts := by
  refine F.ok sc_Lamounts (fun vs H Q E h => ?_) (fun cdv A outer s H vs Q E hr h => ?_)
  · obtain ⟨h, q, n, m, rfl, _⟩ := h
    rfl
  · obtain ⟨h, q, n, m, rfl, a0, n1, n2, m1, m2, fin⟩ := h
    refine ⟨_, (pss_cons (ps_setLc (i := 4) (own := [("at", 3)]) rfl sc_Lamounts.nd rfl rfl (sw_true rfl rfl rfl (by decide +kernel)) (pi_range1 (by rfl) T.b_range (pa_cons (pv 1) pa_nil)) (blkOk_by (N := n_Lamounts) (sc := defScope s_Lamounts) (by decide +kernel)) (fun _ _ _ _ _ => (pg_name (i := 3) sc_Lamounts.nd rfl (.inl rfl))) (fun _ _ _ _ _ => pts_nil) (fun _ _ _ _ _ => (pe_op op_mul (pe_op op_sub (pe_c c_Ldraw hr (by decide) (by rfl) (pa_cons (pv 0) (pa_cons (pe_op op_add (pe_op op_mul pe_int (pv 2)) pe_int) pa_nil))) (pv 2)) (pe_c c_Lpick hr (by decide) (by rfl) (pa_cons (pv 0) (pa_cons (pe_lst (pa_cons pe_int (pa_cons pe_int (pa_cons pe_int pa_nil)))) pa_nil))))))
      (pss_cons (ps_set (i := 3) sc_Lamounts.nd rfl (.inl rfl) (pe_c c_Ldraw hr (by decide) (by rfl) (pa_cons (pv 0) (pa_cons (pv 1) pa_nil))))
      (pss_cut (ps_asg (pe_ifExp (pt_cmpR op_eq (pe_ix ix_list (pv 4) (pv 3) (fun _ _ => rfl)) pe_int (nomark _)) (pe_c c_Lpick hr (by decide) (by rfl) (pa_cons (pv 0) (pa_cons (pe_lst (pa_cons pe_int (pa_cons (pe_op op_sub pe_int pe_int) (pa_cons (pv 2) pa_nil)))) pa_nil))) (pe_ix ix_list (pv 4) (pv 3) (fun _ _ => rfl))) (pg_sub (pv 4) (pv 3) set_list))
      (pss_one (ps_ret (pe_callTy call_tuple_of (by rfl) T.b_tuple (by decide +kernel) (pa_cons (pv 4) pa_nil))))))), ?_⟩
    refine ⟨_, rfl, (n : Int), rfl, by omega, by omega, fun D nD => ?_⟩
    obtain ⟨D1, D2⟩ := a0.fresh nD
    refine lc_range (lo := 0) (n := ((n : Nat) : Int).toNat) (fun i H' => ∃ ks, LI (fun c => c.natAbs ≤ m.natAbs) H H' h q D i ks) ⟨[], LI.nil a0 nD⟩ (fun i H3 hi hI => ?_) (fun H3 hI => ?_)
    · obtain ⟨ks, g⟩ := hI
      rw [Int.toNat_natCast] at hi
      refine ⟨rfl, _, rfl, _, rfl, _, _, rfl, rfl, .inl ⟨by decide, by omega⟩, _, _, rfl, rfl, h, q, 2 * m + 1, rfl, g.a, by omega, by omega, fun x H6 x0 x1 a6 kp6 => ?_⟩
      refine ⟨_, rfl, _, _, rfl, rfl, _, rfl, len3, fun p1 np1 => ?_⟩
      have kq := same_upd (o := .lst [.int 1, .int 1, .int 0]) np1
      obtain ⟨f1, f2⟩ := a6.fresh np1
      refine ⟨h, q, p1, _, rfl, a6.same kq, upd_same, f1, f2, by simp, by show 3 ≤ 1000; decide, fun v H7 mv a7 kp7 => ?_⟩
      obtain ⟨c, rfl, hc⟩ : ∃ c : Int, v = V.int c ∧ (c = 1 ∨ c = 0) := by
        rcases List.mem_cons.mp mv with e | e
        · exact ⟨1, e, .inl rfl⟩
        · rcases List.mem_cons.mp e with e | e
          · exact ⟨1, e, .inl rfl⟩
          · exact ⟨0, List.mem_singleton.mp e, .inr rfl⟩
      refine ⟨_, _, rfl, rfl, .inr ⟨by omega, by omega⟩, ?_⟩
      exact g.go nD D1 D2 a7 ((kp6.trans (Kpt.of_same (h := h) (q := q) kq)).trans kp7) (by omega) (c := (x - m) * c) (mul_pick (by omega) hc)
    · rw [Int.toNat_natCast] at hI
      obtain ⟨ks, g⟩ := hI
      have lk := g.l
      refine ⟨_, rfl, _, rfl, h, q, (n : Int), rfl, g.a, by omega, by omega, fun x H4 x0 x1 a4 kp4 => ?_⟩
      obtain ⟨j, rfl⟩ : ∃ j : Nat, x = (j : Int) := ⟨x.toNat, by omega⟩
      have hj : j < n := by omega
      have e4 := kp4 _ _ g.e D1 D2
      have hk : ks[j]? = some (ks[j]'(by omega)) := List.getElem?_eq_getElem (by omega)
      generalize ks[j]'(by omega) = k0 at *
      have bk0 := g.r k0 (List.mem_of_getElem? hk)
      refine ⟨fun σ H' => ∃ ks2, σ = [some (.ref h), some (.int (n : Nat)), some (.int m), some (.int (j : Nat)), some (.ref D)] ∧ H' D = some (tL ks2) ∧ AmOk n m ks2 ∧ HpAt H' h q ∧ Kpt h q H H', ?_, fun σ H5 hM => ?_⟩
      · have okp : ∀ c : Int, c ≠ 0 → c.natAbs ≤ m.natAbs → AmOk n m (ks.set j c) := fun c c0 cb => by
          refine ⟨by rw [List.length_set]; exact lk, fun z hz => ?_, c, ?_, c0⟩
          · rcases List.mem_or_eq_of_mem_set hz with e | e
            · exact g.r z e
            · rw [e]; exact cb
          · exact List.mem_of_getElem? (i := j) (by rw [List.getElem?_set_self (by omega)])
        have hjl : ixN (ks.map V.int).length (j : Int) = some j := ixN_nat (by rw [List.length_map]; omega)
        have at4 : atI (ks.map V.int) (j : Int) = some (.int k0) := atI_nat (by rw [List.getElem?_map, hk]; rfl)
        refine ⟨_, rfl, _, rfl, D, _, _, .int k0, rfl, rfl, sq_lst e4, at4, rfl, _, rfl, ite2 (fun z => ?_) (fun z => ?_)⟩
        · refine ⟨_, rfl, _, _, rfl, rfl, _, rfl, len3, fun p1 np1 => ?_⟩
          have kq := same_upd (o := .lst [.int 1, .int (-1), .int m]) np1
          obtain ⟨f1, f2⟩ := a4.fresh np1
          refine ⟨h, q, p1, _, rfl, a4.same kq, upd_same, f1, f2, by simp, by show 3 ≤ 1000; decide, fun v H7 mv a7 kp7 => ?_⟩
          obtain ⟨c, rfl, c0, cb⟩ : ∃ c : Int, v = V.int c ∧ c ≠ 0 ∧ c.natAbs ≤ m.natAbs := by
            rcases List.mem_cons.mp mv with e | e
            · exact ⟨1, e, by decide, by omega⟩
            · rcases List.mem_cons.mp e with e | e
              · exact ⟨-1, e.trans (congrArg V.int (by decide : (0 : Int) - 1 = -1)), by decide, by omega⟩
              · exact ⟨m, List.mem_singleton.mp e, by omega, Nat.le_refl _⟩
          have e7 := kp7 _ _ (kq _ _ e4) D1 D2
          refine ⟨_, rfl, _, rfl, D, _, (j : Int), j, rfl, rfl, e7, hjl, ks.set j c, rfl, ?_, okp c c0 cb, a7.upd D1 D2, (((g.k.trans kp4).trans (.of_same kq)).trans kp7).at_new nD⟩
          rw [upd_same, set_mapI]; rfl
        · have c0 : k0 ≠ 0 := fun e => z (by rw [e]; rfl)
          refine ⟨_, rfl, _, rfl, D, _, _, .int k0, rfl, rfl, sq_lst e4, at4, _, rfl, _, rfl, D, _, (j : Int), j, rfl, rfl, e4, hjl, ks.set j k0, rfl, ?_, okp k0 c0 bk0, a4.upd D1 D2, (g.k.trans kp4).at_new nD⟩
          rw [upd_same, set_mapI]; rfl
      · obtain ⟨ks2, rfl, e5, ok, a5, kp5⟩ := hM
        refine ⟨_, rfl, D, _, rfl, .inl ⟨sq_lst e5, fun l nl => ?_⟩⟩
        have kl := same_upd (o := .tup (ks2.map V.int)) nl
        exact fin _ (.ref l) ks2 (a5.same kl) (kp5.trans (.of_same kl)) ⟨l, rfl, upd_same⟩ ok
end
end M66

namespace M66
open PySem PySem.Spec PyProof.Rows L2 SX Own Gd
open C8 (Cal pe_c pe_gc pe_mk Mak pss_cut)
/-! ### drawn sums -/
structure RowGd (n : Nat) (r : Row) : Prop where
  len : r.am.length = n
  nz : ∃ c ∈ r.am, c ≠ 0
  am : Am r
  eq : r.eq = false
  bd : r.bd.natAbs ≤ 1000000
theorem All2.mem {α : Type} {R : V → α → Prop} {vs : List V} {as : List α} {v : V} (h : All2 R vs as) (m : v ∈ vs) : ∃ a ∈ as, R v a := by
  obtain ⟨i, hi, e⟩ := List.getElem_of_mem m
  obtain ⟨a, ha, g⟩ := h.at_ (by rw [List.getElem?_eq_getElem hi, e])
  exact ⟨a, List.mem_of_getElem? ha, g⟩
theorem All2.set {α : Type} {R : V → α → Prop} {v : V} {a : α} : ∀ {vs : List V} {as : List α} (i : Nat), All2 R vs as → R v a → All2 R (vs.set i v) (as.set i a)
  | _, _, _, .nil, _ => .nil
  | _, _, 0, .cons g t, h => .cons h t
  | _, _, i + 1, .cons g t, h => .cons g (t.set i h)
def sgnP (p : Int × Int) : Int := p.1 * (if p.2 < 0 then -p.2 else p.2)
theorem sgn_abs {c y : Int} (h : c = 1 ∨ c = -1) : (sgnP (c, y)).natAbs = y.natAbs := by
  unfold sgnP
  dsimp only
  rcases h with rfl | rfl <;> split <;> omega
theorem sgn_ok {n : Nat} {m : Int} {sg a : List Int} (l : sg.length = n) (h : ∀ c ∈ sg, c = 1 ∨ c = -1) (ok : AmOk n m a) : AmOk n m ((sg.zip a).map sgnP) := by
  refine ⟨by rw [List.length_map, List.length_zip, l, ok.len, Nat.min_self], fun c hc => ?_, ?_⟩
  · obtain ⟨⟨x, y⟩, hp, rfl⟩ := List.mem_map.mp hc
    obtain ⟨h1, h2⟩ := List.of_mem_zip hp
    rw [sgn_abs (h x h1)]
    exact ok.bd y h2
  · obtain ⟨c, hc, c0⟩ := ok.nz
    obtain ⟨i, hi, e⟩ := List.getElem_of_mem hc
    have e1 : a[i]? = some c := by rw [List.getElem?_eq_getElem hi, e]
    have e2 : sg[i]? = some (sg[i]'(by rw [l, ← ok.len]; exact hi)) := List.getElem?_eq_getElem _
    have hx := h _ (List.mem_of_getElem? e2)
    generalize sg[i]'(by rw [l, ← ok.len]; exact hi) = x at *
    refine ⟨sgnP (x, c), List.mem_map.mpr ⟨(x, c), List.mem_of_getElem? (zip_at e2 e1), rfl⟩, fun z => c0 ?_⟩
    have := sgn_abs (y := c) hx
    rw [z] at this
    omega
theorem p106 : (10 : Int) ^ (6 : Int).toNat = 1000000 := by decide
abbrev bndF (t : Int) : Int := if (if t < (10 : Int) ^ (6 : Int).toNat then t else (10 : Int) ^ (6 : Int).toNat) > 0 - (10 : Int) ^ (6 : Int).toNat then (if t < (10 : Int) ^ (6 : Int).toNat then t else (10 : Int) ^ (6 : Int).toNat) else 0 - (10 : Int) ^ (6 : Int).toNat
theorem bnd_le (t : Int) : (bndF t).natAbs ≤ 1000000 := by
  unfold bndF
  rw [p106]
  split <;> split at * <;> omega
theorem cpow6 : CPow 10 6 := ⟨by decide, by decide, by decide⟩
def rm0 : List Int := [0, 1, 2, 3, 5, 9, 0 - 1, 0 - 2]
def rm1 : List Int := [0, 0, 1, 2, 3, 0 - 1]
def rm2 : List Int := [0 - 1, 0 - 2, 0 - 1, 0, 2, 0 - 3]
def rm3 : List Int := [1, 2, 4, 6, 9, 0]
/-- the state of the sums, kept apart -/
def ss (x0 x1 x2 x3 x4 x5 x6 x7 x8 x9 x10 x11 x12 x13 : Option V) : L2.St := [x0, x1, x2, x3, x4, x5, x6, x7, x8, x9, x10, x11, x12, x13]
structure SumSt (h q L SG R : Addr) (H0 H' : Hp) (n : Nat) (sg ks : List Int) (us : List V) (rs : List Row) : Prop where
  ne : ∀ x ∈ [L, SG, R], x ≠ h ∧ x ≠ q
  n1 : L ≠ SG
  n2 : L ≠ R
  nL : H0 L = none
  a : HpAt H' h q
  k : Kpt h q H0 H'
  eL : H' L = some (.lst us)
  eS : H' SG = some (tL sg)
  eR : H' R = some (tL ks)
  al : All2 (RV H') us rs
  ok : ∀ r ∈ rs, RowGd n r
theorem SumSt.step {h q L SG R : Addr} {H0 H1 H2 : Hp} {n : Nat} {sg ks : List Int} {us : List V} {rs : List Row} (st : SumSt h q L SG R H0 H1 n sg ks us rs) (a : HpAt H2 h q) (k : Kpt h q H1 H2) : SumSt h q L SG R H0 H2 n sg ks us rs :=
  ⟨st.ne, st.n1, st.n2, st.nL, a, st.k.trans k, k _ _ st.eL (st.ne L (by simp)).1 (st.ne L (by simp)).2, k _ _ st.eS (st.ne SG (by simp)).1 (st.ne SG (by simp)).2, k _ _ st.eR (st.ne R (by simp)).1 (st.ne R (by simp)).2, st.al.mono fun v r g => g.tk (TK.kp k st.a), st.ok⟩
theorem SumSt.same {h q L SG R : Addr} {H0 H1 H2 : Hp} {n : Nat} {sg ks : List Int} {us : List V} {rs : List Row} (st : SumSt h q L SG R H0 H1 n sg ks us rs) (k : Same H1 H2) : SumSt h q L SG R H0 H2 n sg ks us rs := st.step (st.a.same k) (.of_same k)
theorem SumSt.push {h q L SG R : Addr} {H0 H1 : Hp} {n : Nat} {sg ks : List Int} {us : List V} {rs : List Row} {v : V} {r : Row} (st : SumSt h q L SG R H0 H1 n sg ks us rs) (g : RV H1 v r) (ok : RowGd n r) : SumSt h q L SG R H0 (upd H1 L (.lst (us ++ [v]))) n sg ks (us ++ [v]) (rs ++ [r]) := by
  have tk : TK H1 (upd H1 L (.lst (us ++ [v]))) := TK.put st.eL
  refine ⟨st.ne, st.n1, st.n2, st.nL, st.a.upd (st.ne L (by simp)).1 (st.ne L (by simp)).2, st.k.at_new st.nL, upd_same, by rw [upd_ne (Ne.symm st.n1)]; exact st.eS, by rw [upd_ne (Ne.symm st.n2)]; exact st.eR, (st.al.mono fun v r g => g.tk tk).app (g.tk tk), fun x hx => ?_⟩
  rcases List.mem_append.mp hx with z | z
  · exact st.ok x z
  · rw [List.mem_singleton.mp z]; exact ok
section
variable {P : Program} {w : World} {K : PySem.W.Frag} {mg : Str → Option Value} {base : Heap} {aW aT : Addr} {es : Array DictEntry} {nn : Nat}
abbrev s_Lsums : Stmt := topS 53
abbrev n_Lsums : List Str := ["heap", "box", "many", "most", "found", "kind", "signs", "rooms", "turn", "amounts", "room", "bound", "ends", "at"]
theorem sc_Lsums : FnScope n_Lsums ["heap", "box", "many", "most"] (defScope s_Lsums) := ⟨rfl, rfl, rfl, by decide +kernel, rfl, by decide +kernel, by decide +kernel⟩
def spLsums : Sp := fun vs H Q _ => ∃ (h q : Addr) (b : V) (box : List Fr) (n m : Int), vs = [.ref h, b, .int n, .int m] ∧ HpAt H h q ∧ SV H b box ∧ 1 ≤ box.length ∧ box.length ≤ 90 ∧ 2 ≤ n ∧ n ≤ 6 ∧ 1 ≤ m ∧ m ≤ 100000 ∧
  ∀ H' v rs, HpAt H' h q → Kpt h q H H' → RsV H' v rs → (rs.length : Int) = n → (∀ r ∈ rs, RowGd box.length r) → Q v H'
theorem ok_Lsums {f : Addr} {fd : FuncData} (F : Fun K "_law_sums" "_law_sums" s_Lsums f fd) (T : Txt K mg w aW aT es nn) (c_Ldraw : Cal P w K mg base 1 "_law_draw" spDraw []) (c_Lpick : Cal P w K mg base 2 "_law_pick" spPickL []) (c_Ltop : Cal P w K mg base 1 "_law_top" spLtop []) (c_Lamounts : Cal P w K mg base 3 "_law_amounts" spAmounts []) : FnOk P w K mg base CX0 4 f fd ["heap", "box", "many", "most"] spLsums := by
  refine F.ok sc_Lsums (fun vs H Q E h => ?_) (fun cdv A outer s H vs Q E hr h => ?_)
  · obtain ⟨h, q, b, box, n, m, rfl, _⟩ := h
    rfl
  · obtain ⟨h, q, b, box, n, m, rfl, a0, bv0, b1, b90, n2, n6, m1, m2, fin⟩ := h
    refine ⟨_, (pss_cons (ps_asg (pe_tup (pa_cons (pe_lst pa_nil) (pa_cons (pe_c c_Ldraw hr (by decide) (by rfl) (pa_cons (pv 0) (pa_cons pe_int pa_nil))) (pa_cons (pe_lc (own := [("ends", 12)]) rfl sc_Lsums.nd (pi_tup (pv 1)) (blkOk_by (N := n_Lsums) (sc := defScope s_Lsums) (by decide +kernel)) (fun _ _ _ _ _ => (pg_name (i := 12) sc_Lsums.nd rfl (.inl rfl))) (fun _ _ _ _ _ => pts_nil) (fun _ _ _ _ _ => (pe_c c_Lpick hr (by decide) (by rfl) (pa_cons (pv 0) (pa_cons (pe_lst (pa_cons pe_int (pa_cons (pe_op op_sub pe_int pe_int) pa_nil))) pa_nil))))) pa_nil)))) (pg_tup rfl (pgs_cons (pg_name (i := 4) sc_Lsums.nd rfl (.inl rfl)) (pgs_cons (pg_name (i := 5) sc_Lsums.nd rfl (.inl rfl)) (pgs_cons (pg_name (i := 6) sc_Lsums.nd rfl (.inr rfl)) pgs_nil)))))
      (pss_cut (ps_set (i := 7) sc_Lsums.nd rfl (.inl rfl) (pe_ix ix_list (pe_lst (pa_cons (pe_lst (pa_cons pe_int (pa_cons pe_int (pa_cons pe_int (pa_cons pe_int (pa_cons pe_int (pa_cons pe_int (pa_cons (pe_op op_sub pe_int pe_int) (pa_cons (pe_op op_sub pe_int pe_int) pa_nil))))))))) (pa_cons (pe_lst (pa_cons pe_int (pa_cons pe_int (pa_cons pe_int (pa_cons pe_int (pa_cons pe_int (pa_cons (pe_op op_sub pe_int pe_int) pa_nil))))))) (pa_cons (pe_lst (pa_cons (pe_op op_sub pe_int pe_int) (pa_cons (pe_op op_sub pe_int pe_int) (pa_cons (pe_op op_sub pe_int pe_int) (pa_cons pe_int (pa_cons pe_int (pa_cons (pe_op op_sub pe_int pe_int) pa_nil))))))) (pa_cons (pe_lst (pa_cons pe_int (pa_cons pe_int (pa_cons pe_int (pa_cons pe_int (pa_cons pe_int (pa_cons pe_int pa_nil))))))) pa_nil))))) (pv 5) (fun _ _ => rfl)))
      (pss_cons (ps_for PassesOwn.never rfl (pi_range1 (by rfl) T.b_range (pa_cons (pv 2) pa_nil)) (pg_name (i := 8) sc_Lsums.nd rfl (.inl rfl)) (pss_cons (ps_set (i := 9) sc_Lsums.nd rfl (.inr rfl) (pe_c c_Lamounts hr (by decide) (by rfl) (pa_cons (pv 0) (pa_cons (pe_callB call_len_seq (by rfl) T.b_len (by decide +kernel) (pa_cons (pv 1) pa_nil)) (pa_cons (pv 3) pa_nil)))))
        (pss_cut (ps_if (pt_cmpR op_gt (pv 5) pe_int (nomark _)) (pss_one (ps_set (i := 9) sc_Lsums.nd rfl (.inr rfl) (pe_callTy call_tuple_of (by rfl) T.b_tuple (by decide +kernel) (pa_cons (pe_lc (own := [("at", 13)]) rfl sc_Lsums.nd (pi_range1 (by rfl) T.b_range (pa_cons (pe_callB call_len_seq (by rfl) T.b_len (by decide +kernel) (pa_cons (pv 1) pa_nil)) pa_nil)) (blkOk_by (N := n_Lsums) (sc := defScope s_Lsums) (by decide +kernel)) (fun _ _ _ _ _ => (pg_name (i := 13) sc_Lsums.nd rfl (.inl rfl))) (fun _ _ _ _ _ => pts_nil) (fun _ _ _ _ _ => (pe_op op_mul (pe_ix (r := rIxL K) ix_list (pv 6) (pv 13) (fun _ _ => rfl)) (pe_callB call_abs (by rfl) T.b_abs (by decide +kernel) (pa_cons (pe_ix (r := rIxT K) ix_tup (pv 9) (pv 13) (fun _ _ => rfl)) pa_nil))))) pa_nil)))) pss_nil)
        (pss_cut (ps_set (i := 10) sc_Lsums.nd rfl (.inl rfl) (pe_op op_mul (pe_c c_Lpick hr (by decide) (by rfl) (pa_cons (pv 0) (pa_cons (pv 7) pa_nil))) (pe_ifExp (pt_cmpR op_lt (pv 3) pe_int (nomark _)) pe_int (pe_op op_add pe_int (pe_c c_Ldraw hr (by decide) (by rfl) (pa_cons (pv 0) (pa_cons (pe_op op_mul pe_int (pv 3)) pa_nil)))))))
        (pss_cons (ps_set (i := 11) sc_Lsums.nd rfl (.inl rfl) (pe_callB (call_max2 rfl) (by rfl) T.b_max (by decide +kernel) (pa_cons (pe_op op_sub pe_int (pe_op op_pow pe_int pe_int)) (pa_cons (pe_callB (call_min2 rfl) (by rfl) T.b_min (by decide +kernel) (pa_cons (pe_op op_pow pe_int pe_int) (pa_cons (pe_op op_sub (pe_c c_Ltop hr (by decide) (by rfl) (pa_cons (pv 9) (pa_cons (pv 1) pa_nil))) (pv 10)) pa_nil))) pa_nil))))
        (pss_one (ps_expr (pe_bm PySem.F.plainAttrs_list PySem.F.slot_list_append PySem.F.type_list_append mt_append (pv 4) (pa_cons (pe_tup (pa_cons pe_str (pa_cons (pv 9) (pa_cons pe_bl (pa_cons (pv 11) pa_nil))))) pa_nil)))))))))
      (pss_cut (ps_if (pt_cmpR op_eq (pe_c c_Ldraw hr (by decide) (by rfl) (pa_cons (pv 0) (pa_cons pe_int pa_nil))) pe_int (nomark _)) (pss_one (ps_asg (pe_c c_Lpick hr (by decide) (by rfl) (pa_cons (pv 0) (pa_cons (pv 4) pa_nil))) (pg_sub (pv 4) (pe_c c_Ldraw hr (by decide) (by rfl) (pa_cons (pv 0) (pa_cons (pv 2) pa_nil))) set_list))) pss_nil)
      (pss_one (ps_ret (pe_callTy call_tuple_of (by rfl) T.b_tuple (by decide +kernel) (pa_cons (pv 4) pa_nil)))))))), ?_⟩
    refine ⟨nil_ok, fun L nL => ?_⟩
    obtain ⟨La, Lb⟩ := a0.fresh nL
    have kL := same_upd (o := .lst []) nL
    have eL : upd H L (.lst []) L = some (.lst []) := upd_same
    have a1 := a0.same kL
    have bv1 := bv0.same kL
    have kp1 : Kpt h q H _ := Kpt.of_same kL
    generalize upd H L (.lst []) = H1 at *
    refine ⟨_, rfl, h, q, 4, rfl, a1, by decide, by decide, fun x H2 x0 x1 a2 kp2 => ?_⟩
    obtain ⟨kd, rfl⟩ : ∃ j : Nat, x = (j : Int) := ⟨x.toNat, by omega⟩
    have hkd : kd < 4 := by omega
    obtain ⟨pb, bs, rfl, hpb, alb⟩ := bv1
    have lb := alb.len
    have eL2 := kp2 _ _ eL La Lb
    have bp2 := (TK.kp kp2 a1) _ _ hpb
    refine ⟨_, rfl, pb, rfl, ⟨_, sq_tup bp2⟩, fun D nD => ?_⟩
    obtain ⟨D1, D2⟩ := a2.fresh nD
    refine lc_tup (K := K) (a := pb) (xs := bs) (fun i H' => ∃ ks, LI (fun c => c = 1 ∨ c = -1) H2 H' h q D i ks) ⟨[], LI.nil a2 nD⟩ (fun i H' _ hh => ?_) ?_ ?_
    · obtain ⟨ks, g⟩ := hh
      exact sq_tup ((TK.kp g.k a2) _ _ bp2)
    · rintro i v H3 hv ⟨ks, g⟩
      have hi := (List.getElem?_eq_some_iff.mp hv).1
      refine ⟨rfl, _, rfl, _, _, rfl, rfl, len2, fun p1 np1 => ?_⟩
      have kq := same_upd (o := .lst [.int 1, .int (-1)]) np1
      obtain ⟨f1, f2⟩ := g.a.fresh np1
      refine ⟨h, q, p1, _, rfl, g.a.same kq, upd_same, f1, f2, by simp, by show 2 ≤ 1000; decide, fun v H6 mv a6 kp6 => ?_⟩
      obtain ⟨c, rfl, hc⟩ : ∃ c : Int, v = V.int c ∧ (c = 1 ∨ c = -1) := by
        rcases List.mem_cons.mp mv with e | e
        · exact ⟨1, e, .inl rfl⟩
        · exact ⟨-1, (List.mem_singleton.mp e).trans (congrArg V.int (by decide : (0 : Int) - 1 = -1)), .inr rfl⟩
      exact g.go nD D1 D2 a6 ((Kpt.of_same (h := h) (q := q) kq).trans kp6) (by omega) (c := c) hc
    rintro H3 ⟨sg, gS⟩
    have lS := gS.l
    refine ⟨(by show 3 ≤ sizeLine; decide), fun tt ntt => ?_⟩
    have bp3 := (TK.kp gS.k a2) _ _ bp2
    have eL3 := gS.k _ _ eL2 La Lb
    have al3 : All2 (FV H3) bs box := alb.mono fun v f g => (g.tk (TK.kp kp2 a1)).tk (TK.kp gS.k a2)
    have kp3 := (kp1.trans kp2).trans gS.k
    have kt := same_upd (o := .tup [.ref L, .int (kd : Nat), .ref D]) ntt
    have htt : upd H3 tt (.tup [.ref L, .int (kd : Nat), .ref D]) tt = some (.tup [.ref L, .int (kd : Nat), .ref D]) := upd_same
    have bp4 := kt _ _ bp3
    have eL4 := kt _ _ eL3
    have eS4 := kt _ _ gS.e
    have al4 : All2 (FV _) bs box := al3.mono fun v f g => g.same kt
    have a4 := gS.a.same kt
    have kp4 : Kpt h q H _ := kp3.trans (.of_same kt)
    generalize upd H3 tt (.tup [.ref L, .int (kd : Nat), .ref D]) = H4 at *
    refine ⟨tt, _, rfl, sq_tup htt, rfl, _, _, rfl, _, _, rfl, _, _, rfl, rfl, ?_⟩
    refine ⟨fun σ H' => ∃ (R : Addr) (ks : List Int), σ = ss (some (.ref h)) (some (.ref pb)) (some (.int n)) (some (.int m)) (some (.ref L)) (some (.int (kd : Nat))) (some (.ref D)) (some (.ref R)) none none none none none none ∧ H' R = some (tL ks) ∧ ks ≠ [] ∧ ks.length ≤ 10 ∧ (∀ c ∈ ks, c.natAbs ≤ 9) ∧ H4 R = none ∧ Same H4 H', ?_, fun σ H5 hM => ?_⟩
    · refine ⟨_, _, rfl, rfl, _, _, rfl, rfl, (by show 8 ≤ sizeLine; decide), fun R0 n0 => ?_⟩
      have k0 := same_upd (o := tL rm0) n0
      have e0 : upd H4 R0 (tL rm0) R0 = some (tL rm0) := upd_same
      show tCons _ _ _ (upd H4 R0 (tL rm0)) _
      generalize upd H4 R0 (tL rm0) = G0 at *
      refine ⟨_, _, rfl, rfl, (by show 6 ≤ sizeLine; decide), fun R1 n1 => ?_⟩
      have k1 := same_upd (o := tL rm1) n1
      have e1 : upd G0 R1 (tL rm1) R1 = some (tL rm1) := upd_same
      show tCons _ _ _ (upd G0 R1 (tL rm1)) _
      generalize upd G0 R1 (tL rm1) = G1 at *
      refine ⟨_, _, rfl, rfl, _, _, rfl, rfl, _, _, rfl, rfl, _, _, rfl, rfl, (by show 6 ≤ sizeLine; decide), fun R2 n2 => ?_⟩
      have k2 := same_upd (o := tL rm2) n2
      have e2 : upd G1 R2 (tL rm2) R2 = some (tL rm2) := upd_same
      show tCons _ _ _ (upd G1 R2 (tL rm2)) _
      generalize upd G1 R2 (tL rm2) = G2 at *
      refine ⟨(by show 6 ≤ sizeLine; decide), fun R3 n3 => ?_⟩
      have k3 := same_upd (o := tL rm3) n3
      have e3 : upd G2 R3 (tL rm3) R3 = some (tL rm3) := upd_same
      show tNil _ (upd G2 R3 (tL rm3)) _
      generalize upd G2 R3 (tL rm3) = G3 at *
      refine ⟨(by show 4 ≤ sizeLine; decide), fun RR nR => ?_⟩
      have kR := same_upd (o := .lst [.ref R0, .ref R1, .ref R2, .ref R3]) nR
      have eR : upd G3 RR (.lst [.ref R0, .ref R1, .ref R2, .ref R3]) RR = some (.lst [.ref R0, .ref R1, .ref R2, .ref R3]) := upd_same
      have s4 := k0.trans (k1.trans (k2.trans (k3.trans kR)))
      generalize upd G3 RR (.lst [.ref R0, .ref R1, .ref R2, .ref R3]) = G4 at *
      obtain ⟨R, ks, ea, eK, kne, kl, kb, nK⟩ : ∃ (R : Addr) (ks : List Int), atI [V.ref R0, .ref R1, .ref R2, .ref R3] (kd : Int) = some (.ref R) ∧ G4 R = some (tL ks) ∧ ks ≠ [] ∧ ks.length ≤ 10 ∧ (∀ c ∈ ks, c.natAbs ≤ 9) ∧ H4 R = none := by
        match kd, hkd with
        | 0, _ => exact ⟨R0, rm0, rfl, kR _ _ (k3 _ _ (k2 _ _ (k1 _ _ e0))), by decide, by decide, by decide, n0⟩
        | 1, _ => exact ⟨R1, rm1, rfl, kR _ _ (k3 _ _ (k2 _ _ e1)), by decide, by decide, by decide, k0.free n1⟩
        | 2, _ => exact ⟨R2, rm2, rfl, kR _ _ (k3 _ _ e2), by decide, by decide, by decide, (k0.trans k1).free n2⟩
        | 3, _ => exact ⟨R3, rm3, rfl, kR _ _ e3, by decide, by decide, by decide, (k0.trans (k1.trans k2)).free n3⟩
      exact ⟨_, rfl, RR, _, (kd : Int), .ref R, rfl, rfl, sq_lst eR, ea, R, ks, rfl, eK, kne, kl, kb, nK, s4⟩
    · obtain ⟨R, ks, rfl, eR, kne, kl, kb, nR, s5⟩ := hM
      obtain ⟨fR1, fR2⟩ := a4.fresh nR
      have st5 : SumSt h q L D R H H5 box.length sg ks [] [] := ⟨fun x hx => by
          rcases List.mem_cons.mp hx with e | e
          · rw [e]; exact ⟨La, Lb⟩
          · rcases List.mem_cons.mp e with e | e
            · rw [e]; exact ⟨D1, D2⟩
            · rw [List.mem_singleton.mp e]; exact ⟨fR1, fR2⟩,
        ne_of_none eL2 nD, ne_of_none eL4 nR, nL, a4.same s5, kp4.trans (.of_same s5), s5 _ _ eL4, s5 _ _ eS4, eR, .nil, fun r hr => by cases hr⟩
      have hsr := gS.r
      clear s5 eR nR fR1 fR2 eS4 eL4 al4 bp4 a4 kp4 kp3 al3 eL3 bp3 gS bp2 eL2 a2 kp2 a1 hpb alb
      refine ⟨_, rfl, n, rfl, by omega, by omega, for_range (lo := 0) (n := n.toNat) (fun i σ H' => ∃ us rs y8 y9 y10 y11, σ = ss (some (.ref h)) (some (.ref pb)) (some (.int n)) (some (.int m)) (some (.ref L)) (some (.int (kd : Nat))) (some (.ref D)) (some (.ref R)) y8 y9 y10 y11 none none ∧ SumSt h q L D R H H' box.length sg ks us rs ∧ rs.length = i)
        ⟨[], [], none, none, none, none, rfl, st5, rfl⟩ (fun i σ H6 hi hI => ?_) (fun σ H6 hI => ?_)⟩
      · obtain ⟨us, rs, y8, y9, y10, y11, rfl, st, li⟩ := hI
        obtain ⟨_, bs6, e6, hpb6, alb6⟩ := bv0.tk (TK.kp st.k a0)
        cases e6
        have lb6 := alb6.len
        refine ⟨_, rfl, _, rfl, pb, _, rfl, .inr (sq_tup hpb6), _, rfl, h, q, box.length, m, by rw [lb6]; rfl, st.a, b1, b90, m1, m2, fun H7 v9 a9 a7 kp7 av9 ok9 => ?_⟩
        have st7 := st.step a7 kp7
        refine ⟨fun σ H' => ∃ v9 a9, σ = ss (some (.ref h)) (some (.ref pb)) (some (.int n)) (some (.int m)) (some (.ref L)) (some (.int (kd : Nat))) (some (.ref D)) (some (.ref R)) (some (.int (0 + (i : Nat)))) (some v9) y10 y11 none none ∧ LV H' v9 a9 ∧ AmOk box.length m a9 ∧ SumSt h q L D R H H' box.length sg ks us rs, ?_, fun σ H8 hM => ?_⟩
        · obtain ⟨_, bs7, e7, hpb7, alb7⟩ := bv0.tk (TK.kp st7.k a0)
          cases e7
          have lb7 := alb7.len
          obtain ⟨pa, rfl, hpa⟩ := av9
          have la := ok9.len
          refine ⟨_, rfl, _, _, rfl, rfl, _, rfl, ite2 (fun hk => ?_) (fun hk => ⟨_, a9, rfl, ⟨pa, rfl, hpa⟩, ok9, st7⟩)⟩
          refine ⟨_, rfl, pb, _, rfl, .inr (sq_tup hpb7), _, rfl, by omega, by omega, fun E' nE => ?_⟩
          refine lc_range (lo := 0) (n := ((bs7.length : Nat) : Int).toNat) (fun i H' => H' E' = some (tL (((sg.zip a9).take i).map sgnP)) ∧ Same H7 H') ⟨upd_same, same_upd nE⟩ (fun j H8 hj hI => ?_) (fun H8 hI => ?_)
          · obtain ⟨hE, s8⟩ := hI
            rw [Int.toNat_natCast] at hj
            rw [show ((0 : Int) + (j : Nat)) = (j : Int) by omega]
            have hc : a9[j]? = some (a9[j]'(by omega)) := List.getElem?_eq_getElem _
            have hx : sg[j]? = some (sg[j]'(by omega)) := List.getElem?_eq_getElem _
            have hs := hsr _ (List.mem_of_getElem? hx)
            generalize a9[j]'(by omega) = c at *
            generalize sg[j]'(by omega) = x at *
            refine ⟨rfl, _, rfl, _, rfl, D, _, _, .int x, rfl, rfl, sq_lst (s8 _ _ st7.eS), atI_nat (by rw [List.getElem?_map, hx]; rfl), _, rfl, _, rfl, pa, _, _, .int c, rfl, rfl, sq_tup (s8 _ _ hpa), atI_nat (by rw [List.getElem?_map, hc]; rfl), _, rfl, _, _, rfl, rfl, .inl ⟨by omega, by omega⟩, _, hE, small1000 (by rw [List.length_map, List.length_map, List.length_take]; omega), ?_, same_at s8 nE⟩
            rw [upd_same, take_one (zip_at hx hc), List.map_append]
            unfold tL
            rw [List.map_append]; rfl
          · obtain ⟨hE, s8⟩ := hI
            rw [Int.toNat_natCast, List.take_of_length_le (by rw [List.length_zip]; omega)] at hE
            refine ⟨E', _, rfl, .inl ⟨sq_lst hE, fun l nl => ?_⟩⟩
            have kl := same_upd (o := tI ((sg.zip a9).map sgnP)) nl
            exact ⟨.ref l, (sg.zip a9).map sgnP, rfl, ⟨l, rfl, upd_same⟩, sgn_ok (by omega) hsr ok9, st7.same (s8.trans kl)⟩
        clear av9 ok9 st7 kp7 a7
        obtain ⟨v9, a9, rfl, av9, ok9, st8⟩ := hM
        refine ⟨fun σ H' => ∃ z, σ = ss (some (.ref h)) (some (.ref pb)) (some (.int n)) (some (.int m)) (some (.ref L)) (some (.int (kd : Nat))) (some (.ref D)) (some (.ref R)) (some (.int (0 + (i : Nat)))) (some v9) (some (.int z)) y11 none none ∧ LV H' v9 a9 ∧ SumSt h q L D R H H' box.length sg ks us rs, ?_, fun σ H9 hM => ?_⟩
        · refine ⟨_, rfl, _, rfl, h, q, R, _, rfl, st8.a, st8.eR, (st8.ne R (by simp)).1, (st8.ne R (by simp)).2, (fun z => kne (by simpa using z)), by rw [List.length_map]; omega, fun v HA mv aA kpA => ?_⟩
          obtain ⟨c, hc, rfl⟩ := int_of mv
          have bc := kb c hc
          have stA := st8.step aA kpA
          have avA := av9.tk (TK.kp kpA st8.a)
          refine ⟨_, rfl, _, _, rfl, rfl, _, rfl, ite2 (fun hk => ?_) (fun hk => ?_)⟩
          · exact ⟨_, _, rfl, rfl, .inl ⟨by omega, by omega⟩, _, rfl, avA, stA⟩
          · refine ⟨_, rfl, _, rfl, _, _, rfl, rfl, .inl ⟨by decide, by decide⟩, h, q, 2 * m, rfl, aA, by omega, by omega, fun d HB d0 d1 aB kpB => ?_⟩
            exact ⟨_, _, rfl, rfl, _, _, rfl, rfl, .inl ⟨by omega, by omega⟩, _, rfl, avA.tk (TK.kp kpB aA), stA.step aB kpB⟩
        obtain ⟨z, rfl, av10, st9⟩ := hM
        have bv9 := bv0.tk (TK.kp st9.k a0)
        have l9 := ok9.len
        have am9 : Am6 a9 := fun c hc => Nat.le_trans (ok9.bd c hc) (by omega)
        refine ⟨_, _, rfl, rfl, cpow6, _, _, rfl, rfl, _, _, rfl, rfl, cpow6, _, rfl, _, rfl, v9, .ref pb, a9, box, rfl, av10, bv9, l9, by omega, am9, fun HA sA => ?_⟩
        refine ⟨_, rfl, _, _, rfl, rfl, _, _, rfl, _, _, rfl, ?_⟩
        refine ⟨_, rfl, .inl ⟨rfl, _, sq_lst (sA _ _ st9.eL)⟩, _, rfl, _, rfl, (by show 4 ≤ sizeLine; decide), fun pn npn => ?_⟩
        have stA := st9.same sA
        obtain ⟨pa, rfl, hpa⟩ := av10.same sA
        have kn := same_upd (o := .tup [.str "sum", .ref pa, .bl false, .int (bndF (topF a9 box - z))]) npn
        have hn : upd HA pn (.tup [.str "sum", .ref pa, .bl false, .int (bndF (topF a9 box - z))]) pn = some (.tup [.str "sum", .ref pa, .bl false, .int (bndF (topF a9 box - z))]) := upd_same
        have stn := stA.same kn
        have lus := stA.al.len
        refine ⟨L, _, _, rfl, rfl, stn.eL, small1000 (by omega), us ++ [.ref pn], rs ++ [⟨a9, false, bndF (topF a9 box - z)⟩], _, _, _, _, rfl, stn.push ⟨pn, pa, rfl, hn, kn _ _ hpa⟩ { len := l9, nz := ok9.nz, am := (show Am ⟨a9, false, bndF (topF a9 box - z)⟩ from am9), eq := rfl, bd := bnd_le _ }, by rw [List.length_append, li]; rfl⟩
      · obtain ⟨us, rs, y8, y9, y10, y11, rfl, st, li⟩ := hI
        refine ⟨fun σ H' => ∃ us rs, σ = ss (some (.ref h)) (some (.ref pb)) (some (.int n)) (some (.int m)) (some (.ref L)) (some (.int (kd : Nat))) (some (.ref D)) (some (.ref R)) y8 y9 y10 y11 none none ∧ SumSt h q L D R H H' box.length sg ks us rs ∧ rs.length = n.toNat, ?_, fun σ H7 hM => ?_⟩
        · refine ⟨_, rfl, h, q, 3, rfl, st.a, by decide, by decide, fun d H7 d0 d1 a7 kp7 => ⟨rfl, _, rfl, ite2 (fun z => ?_) (fun z => ⟨us, rs, rfl, st.step a7 kp7, li⟩)⟩⟩
          have st7 := st.step a7 kp7
          have lus := st7.al.len
          refine ⟨_, rfl, _, rfl, h, q, L, us, rfl, a7, st7.eL, La, Lb, (fun z => by rw [z] at lus; simp only [List.length_nil] at lus; omega), by omega, fun v H8 mv a8 kp8 => ?_⟩
          have st8 := st7.step a8 kp8
          obtain ⟨r, mr, rv⟩ := st8.al.mem mv
          refine ⟨_, rfl, _, rfl, _, rfl, h, q, n, rfl, a8, by omega, by omega, fun x H9 x0 x1 a9 kp9 => ?_⟩
          have st9 := st8.step a9 kp9
          obtain ⟨j, rfl⟩ : ∃ j : Nat, x = (j : Int) := ⟨x.toNat, by omega⟩
          have tk : TK H9 (upd H9 L (.lst (us.set j v))) := TK.put st9.eL
          refine ⟨L, us, (j : Int), j, rfl, rfl, st9.eL, ixN_nat (by omega), us.set j v, rs.set j r, rfl, ⟨st9.ne, st9.n1, st9.n2, st9.nL, st9.a.upd La Lb, st9.k.at_new st9.nL, upd_same, by rw [upd_ne (Ne.symm st9.n1)]; exact st9.eS, by rw [upd_ne (Ne.symm st9.n2)]; exact st9.eR, (st9.al.mono fun v r g => g.tk tk).set j (rv.tk ((TK.kp kp9 a8).trans tk)), fun x hx => ?_⟩, by rw [List.length_set]; exact li⟩
          rcases List.mem_or_eq_of_mem_set hx with e | e
          · exact st9.ok x e
          · rw [e]; exact st9.ok r mr
        · obtain ⟨us, rs, rfl, st, li⟩ := hM
          refine ⟨_, rfl, L, _, rfl, .inl ⟨sq_lst st.eL, fun l nl => ?_⟩⟩
          have kl := same_upd (o := .tup us) nl
          exact fin _ (.ref l) rs (st.a.same kl) (st.k.trans (.of_same kl)) ⟨l, us, rfl, upd_same, st.al.mono fun v r g => g.same kl⟩ (by omega) st.ok
end
end M66

namespace Gd
open PySem PySem.Spec PyProof.Rows L2
theorem tuple_mul1 (l : Addr) (items : Array Value) (n : Nat) (dd : Option Addr) (sl : Array (Option Value)) (u : Tok) (hne : items.isEmpty = false) :
    Meets (Builtin.«tuple.__mul__» ⟨[.ref l, .int 1 u], []⟩) (fun _ R s => s.heap.get? l = some { cls := .type "tuple", dict := dd, data := .seq items n, slots := sl } ∧ R (.ok (.ret (Value.ref l))) s) :=
  .of_wp fun prog w A R s h => by
    obtain ⟨hp, g, d, tk, os⟩ := s
    obtain ⟨hl, h⟩ := h
    have f1 := AutoSeq1.idx_int
    have c1 : (items.isEmpty || (1 : Int) == 1) = true := by simp
    wp_walk using wpAny_loadPart' hl
    repeat (first
      | (refine wpAny_ite_true (by simp) ?_; wp_walk using wpAny_loadPart' hl)
      | (refine wpAny_ite_false (by simp) ?_; wp_walk using wpAny_loadPart' hl))
    exact ⟨_, rfl, h⟩
theorem tuple_mul0 (l : Addr) (items : Array Value) (n : Nat) (dd : Option Addr) (sl : Array (Option Value)) (u : Tok) (hne : items.isEmpty = false) :
    Meets (Builtin.«tuple.__mul__» ⟨[.ref l, .int 0 u], []⟩) (fun _ R s => s.heap.get? l = some { cls := .type "tuple", dict := dd, data := .seq items n, slots := sl } ∧ R (.ok (.ret (Value.ref s.heap.objs.size))) { s with heap := s.heap.push { cls := Value.type "tuple", data := Data.seq #[] }, toks := s.toks }) :=
  .of_wp fun prog w A R s h => by
    obtain ⟨hp, g, d, tk, os⟩ := s
    obtain ⟨hl, h⟩ := h
    have f1 := AutoSeq1.idx_int
    wp_walk using wpAny_loadPart' hl
    repeat (first
      | (refine wpAny_ite_false (by simp [hne]) ?_; wp_walk using wpAny_loadPart' hl)
      | (refine wpAny_ite_true (by simp) ?_; wp_walk using wpAny_loadPart' hl))
    exact ⟨_, rfl, h⟩
/-- a tuple of one or more items, times 0 and more -/
def rRepA (K : PySem.W.Frag) : R2 := fun x y H Q => ∃ l k xs, x = .ref l ∧ y = .int k ∧ SqT K H l xs ∧ xs ≠ [] ∧ 0 ≤ k ∧ k ≤ 1000 ∧ xs.length ≤ 1000 ∧ (k = 1 → Q (.ref l) H) ∧ (k ≠ 1 → ∀ p, H p = none → Q (.ref p) (upd H p (.tup (List.replicate k.toNat xs).flatten)))
theorem op_repA {X : Cx} : OpR X (binaryOp .Mult) (rRepA X.K) := by
  intro pins s σ H x y v u Q I rx ry h
  obtain ⟨l, k, xs, rfl, rfl, hT, hne, h1, h2, hz, q1, q2⟩ := h
  by_cases hk : 2 ≤ k
  · exact op_repT pins s σ H _ _ v u Q I rx ry ⟨l, k, xs, rfl, rfl, hT, hne, hk, h2, hz, q2 (by omega)⟩
  cases rx
  obtain ⟨t, rfl⟩ := ry
  obtain ⟨its, r, ⟨⟨cls, dd, data, sl⟩, ho, hc, n, hd⟩, hs⟩ := I.tuple hT
  simp only at hc hd
  subst hc hd
  have hn : its ≠ [] := fun e => hne (by
    have hle : its.length = xs.length := r.length.symm
    rw [e] at hle
    exact List.eq_nil_of_length_eq_zero hle.symm)
  have hi : its.toArray.isEmpty = false := by
    cases its with
    | nil => exact absurd rfl hn
    | cons a b => rfl
  have h01 : k = 1 ∨ k = 0 := by omega
  rcases h01 with rfl | rfl
  · refine wpAny_binaryOp_repeat_ref (T := "tuple") (U := "int") (by decide) ⟨_, ho, rfl⟩ (fun s' => typeIs_int s' 1 t) noFill_tuple_mul F.fills_int_mul F.slot_int_rmul repeat_tuple F.slot_int_index.lookup
      (call_meets F.slot_int_rmul (typeIs_int s 1 t) F.entry_int_rmul (F.args_int_rmul_2 _ _) (int_rmul_tuple 1 t l its.toArray n dd sl)
        ⟨ho, rfl, ⟨_, ho, rfl⟩, call_meets F.slot_tuple_mul ⟨_, ho, rfl⟩ F.entry_tuple_mul (F.args_tuple_mul_2 _ _) (tuple_mul1 l its.toArray n dd sl t hi) ⟨ho, ?_⟩⟩)
    exact ⟨.ref l, H, I, rfl, q1 rfl⟩
  · refine wpAny_binaryOp_repeat_ref (T := "tuple") (U := "int") (by decide) ⟨_, ho, rfl⟩ (fun s' => typeIs_int s' 0 t) noFill_tuple_mul F.fills_int_mul F.slot_int_rmul repeat_tuple F.slot_int_index.lookup
      (call_meets F.slot_int_rmul (typeIs_int s 0 t) F.entry_int_rmul (F.args_int_rmul_2 _ _) (int_rmul_tuple 0 t l its.toArray n dd sl)
        ⟨ho, rfl, ⟨_, ho, rfl⟩, call_meets F.slot_tuple_mul ⟨_, ho, rfl⟩ F.entry_tuple_mul (F.args_tuple_mul_2 _ _) (tuple_mul0 l its.toArray n dd sl t hi) ⟨ho, ?_⟩⟩)
    refine ⟨.ref s.heap.objs.size, _, I.laid (t' := s.toks) (o := .tup []) (fun b ob q => Heap.get?_push_of_some _ q) (Nat.le_refl _) ?_, rfl, q2 (by decide) _ (I.hok.fresh (Nat.le_refl _))⟩
    exact ⟨Nat.zero_le _, [], .nil, IsTup.new _ _⟩
end Gd

namespace M66
open PySem PySem.Spec PyProof.Rows L2 SX Own Gd
open C8 (Cal pe_c pe_gc pe_mk Mak pss_cut)
/-! ### the law's tasks -/
theorem one_ok {x : V} : [x].length ≤ sizeLine := by show 1 ≤ sizeLine; decide
theorem rep_w {K : PySem.W.Frag} {n : Nat} {c : Int} {H : Hp} {l : Addr} {Q : VK} (h1 : 1 ≤ n) (h2 : n ≤ 1000) (hl : H l = some (.tup [.int c])) (q : ∀ p H', Same H H' → H' p = some (tI (List.replicate n c)) → Q (.ref p) H') : rRepA K (.ref l) (.int (n : Nat)) H Q := by
  refine ⟨l, n, _, rfl, rfl, sq_tup hl, by simp, by omega, by omega, (by rw [List.length_singleton]; decide), fun e => ?_, fun e p np => ?_⟩
  · have : n = 1 := by omega
    subst this
    exact q l H (Same.refl _) hl
  · refine q p _ (same_upd np) ?_
    rw [upd_same, Int.toNat_natCast]
    have : (List.replicate n [V.int c]).flatten = (List.replicate n c).map V.int := by
      rw [repf, List.map_replicate]
    show some (HO.tup _) = some (HO.tup _)
    rw [this]
def nmB (s : Str) : Bool := decide (1 ≤ s.length) && (decide (s.length ≤ 6) && (s.cps.toList.all (fun c => ("abcdefghijklmnopqrstuvwxyz" : Str).cps.toList.contains c) && !inV (.str s) (wordsL.map V.str)))
theorem nm_of {s : Str} (h : nmB s = true) : NmOk s := by
  unfold nmB at h
  rw [Bool.and_eq_true, Bool.and_eq_true, Bool.and_eq_true] at h
  obtain ⟨h1, h2, h3, h4⟩ := h
  refine ⟨of_decide_eq_true h1, of_decide_eq_true h2, fun c hc => ?_, ?_⟩
  · have := List.all_eq_true.mp h3 c hc
    exact List.contains_iff_mem.mp this
  · simpa using h4
def nm1 (i : Nat) : Str := ⟨#[97 + i]⟩
theorem nm_all : ∀ i : Fin 7, nmB (nm1 i) = true := by decide +kernel
theorem nm_ok {i : Nat} (hi : i < 7) : NmOk (nm1 i) := nm_of (nm_all ⟨i, hi⟩)
theorem nm_lt_all : ∀ i : Fin 6, (nm1 i).cps.toList < (nm1 (i + 1)).cps.toList := by decide +kernel
theorem nm_lt {i : Nat} (hi : i < 6) : (nm1 i).cps.toList < (nm1 (i + 1)).cps.toList := nm_lt_all ⟨i, hi⟩
theorem at_letter : ∀ i : Fin 7, ("abcdefg" : Str).cps.toList[i.val]? = some (97 + i.val) := by decide +kernel
/-- unknowns with the letters as names -/
def Ul (ul : List Unk) : Prop := ∀ (i : Nat) u, ul[i]? = some u → u.1 = nm1 i ∧ u.2.1 ≤ u.2.2
theorem Ul.app {ul : List Unk} {lo hi : Int} (h : Ul ul) (l : lo ≤ hi) : Ul (ul ++ [(nm1 ul.length, lo, hi)]) := fun i u e => by
  by_cases c : i < ul.length
  · rw [List.getElem?_append_left c] at e
    exact h i u e
  · rw [List.getElem?_append_right (by omega)] at e
    have h1 : i - ul.length < 1 := (List.getElem?_eq_some_iff.mp e).1
    have : i = ul.length := by omega
    subst this
    rw [Nat.sub_self] at e
    cases e
    exact ⟨rfl, l⟩
theorem Ul.ok {ul : List Unk} (h : Ul ul) (h1 : 1 ≤ ul.length) (h7 : ul.length ≤ 7) : UnkOk ul := by
  refine ⟨h1, by omega, fun u hu => ?_, fun u hu => ?_, fun i u v e1 e2 => ?_⟩
  · obtain ⟨i, hi, e⟩ := List.getElem_of_mem hu
    rw [(h i u (by rw [List.getElem?_eq_getElem hi, e])).1]
    exact nm_ok (by omega)
  · obtain ⟨i, hi, e⟩ := List.getElem_of_mem hu
    exact (h i u (by rw [List.getElem?_eq_getElem hi, e])).2
  · have hi := (List.getElem?_eq_some_iff.mp e2).1
    rw [(h i u e1).1, (h (i + 1) v e2).1]
    exact nm_lt (by omega)
theorem UVs.app {H : Hp} {v : V} {u : Unk} : ∀ {vs : List V} {as : List Unk}, UVs H vs as → UV H v u → UVs H (vs ++ [v]) (as ++ [u])
  | _, _, .nil, h => .cons h .nil
  | _, _, .cons g t, h => .cons g (t.app h)
theorem UVs.tk2 {H H' : Hp} (s : TK H H') {vs : List V} {as : List Unk} (h : UVs H vs as) : UVs H' vs as := h.tk s
theorem WVs.cat {H : Hp} : ∀ {vs : List V} {as : List Wish} {vs' : List V} {as' : List Wish}, WVs H vs as → WVs H vs' as' → WVs H (vs ++ vs') (as ++ as')
  | _, _, _, _, .nil, h => h
  | _, _, _, _, .cons g t, h => .cons g (t.cat h)
theorem WVs.take {H : Hp} : ∀ (n : Nat) {vs : List V} {as : List Wish}, WVs H vs as → WVs H (vs.take n) (as.take n)
  | 0, _, _, _ => .nil
  | n + 1, _, _, .nil => .nil
  | n + 1, _, _, .cons g t => .cons g (t.take n)
theorem cut_to {xs : List V} {k : Nat} (h : k ≤ xs.length) : cutV xs none (some (k : Int)) = xs.take k := by
  unfold cutV
  rw [HT.sIx_nat, HT.sIx_none, Nat.min_eq_left h]
  simp
structure RBd (n : Nat) (r : Row) : Prop where
  am : Am r
  len : r.am.length = n
  bd : r.bd.natAbs ≤ 1000000
def WBd (n : Nat) : Wish → Prop
  | .sum r => RBd n r
  | .either rs => rs.length ≤ 6 ∧ ∀ r ∈ rs, RBd n r
theorem am_rep {n : Nat} {c b : Int} {e : Bool} (h : c.natAbs ≤ 1000000) (hb : b.natAbs ≤ 1000000) : RBd n ⟨List.replicate n c, e, b⟩ :=
  ⟨fun z hz => by rw [(List.mem_replicate.mp hz).2]; exact h, List.length_replicate, hb⟩
theorem rep_ok {n : Nat} {c : Int} (h : 1 ≤ n) (h0 : c ≠ 0) : (List.replicate n c).length = n ∧ ∃ z ∈ List.replicate n c, z ≠ 0 :=
  ⟨List.length_replicate, c, List.mem_replicate.mpr ⟨by omega, rfl⟩, h0⟩
section
variable {P : Program} {w : World} {K : PySem.W.Frag} {mg : Str → Option Value} {base : Heap} {aW aT : Addr} {es : Array DictEntry} {nn : Nat}
abbrev s_Lworld : Stmt := topS 54
abbrev n_Lworld : List Str := ["heap", "box", "many", "most", "size", "number", "sums", "made", "others", "wishes", "unknowns", "at"]
theorem sc_Lworld : FnScope n_Lworld ["heap", "box", "many", "most"] (defScope s_Lworld) := ⟨rfl, rfl, rfl, by decide +kernel, rfl, by decide +kernel, by decide +kernel⟩
/-- a task with the either rs at k -/
structure TkE (C : Addr) (H : Hp) (v : V) (n k : Nat) (rs : List Row) (ul : List Unk) (wl : List Wish) (goal : List Int) : Prop where
  tv : TaskV C H v ul wl goal
  lu : ul.length = n
  at_ : wl[k]? = some (.either rs)
  few : wl.length ≤ 5
  k2 : k ≤ 2
  ok : ∀ r ∈ rs, RowGd n r
  wb : ∀ z ∈ wl, WBd n z
  nx : ∀ z, wl[k + 1]? = some z → ∃ r, z = .sum r
  z0 : 0 < k → ∃ r, wl[0]? = some (.sum r)
def spWorld (C : Addr) : Sp := fun vs H Q _ => ∃ (h q : Addr) (b : V) (box : List Fr) (n m : Int), vs = [.ref h, b, .int n, .int m] ∧ HpAt H h q ∧ SV H b box ∧ 1 ≤ box.length ∧ box.length ≤ 7 ∧ (∀ p ∈ box, -1000000 ≤ p.1) ∧ 2 ≤ n ∧ n ≤ 6 ∧ 1 ≤ m ∧ m ≤ 100000 ∧
  ∀ H' v tv k rs ul wl goal, HpAt H' h q → Kpt h q H H' → (∃ p, v = .ref p ∧ H' p = some (.tup [tv, .int (k : Nat)])) → TkE C H' tv box.length k rs ul wl goal → (rs.length : Int) = n → Q v H'
theorem ok_Lworld {f C : Addr} {fd : FuncData} (F : Fun K "_law_world" "_law_world" s_Lworld f fd) (T : Txt K mg w aW aT es nn) (c_Ldraw : Cal P w K mg base 1 "_law_draw" spDraw []) (c_Lpick : Cal P w K mg base 2 "_law_pick" spPickL []) (c_Lsums : Cal P w K mg base 4 "_law_sums" spLsums []) (m_Task : Mak P w K mg base 8 "Task" C (spTask C) []) : FnOk P w K mg base CX0 10 f fd ["heap", "box", "many", "most"] (spWorld C) := by
  refine F.ok sc_Lworld (fun vs H Q E h => ?_) (fun cdv A outer s H vs Q E hr h => ?_)
  · obtain ⟨h, q, b, box, n, m, rfl, _⟩ := h
    rfl
  · obtain ⟨h, q, b, box, n, m, rfl, a0, bv0, b1, b7, blo, n2, n6, m1, m2, fin⟩ := h
    obtain ⟨pb, bs, rfl, hpb, alb⟩ := bv0
    have lb := alb.len
    refine ⟨_, (pss_cons (ps_par (i := 4) (j := 5) (by rfl) sc_Lworld.nd rfl rfl (by decide) rfl rfl (pa_cons (pe_callB call_len_seq (by rfl) T.b_len (by decide +kernel) (pa_cons (pv 1) pa_nil)) (pa_cons (pe_c c_Ldraw hr (by decide) (by rfl) (pa_cons (pv 0) (pa_cons pe_int pa_nil))) pa_nil)) (by rfl))
      (pss_cons (ps_set (i := 6) sc_Lworld.nd rfl (.inl rfl) (pe_tup (pa_cons (pe_tup (pa_cons pe_str (pa_cons (pe_op op_repA (pe_tup (pa_cons pe_int pa_nil)) (pv 4)) (pa_cons pe_bl (pa_cons pe_int pa_nil))))) (pa_cons (pe_tup (pa_cons pe_str (pa_cons (pe_op op_repA (pe_tup (pa_cons (pe_op op_sub pe_int pe_int) pa_nil)) (pv 4)) (pa_cons pe_bl (pa_cons (pe_op op_sub pe_int pe_int) pa_nil))))) pa_nil))))
      (pss_cons (ps_set (i := 7) sc_Lworld.nd rfl (.inl rfl) (pe_tup (pa_cons pe_str (pa_cons (pe_c c_Lsums hr (by decide) (by rfl) (pa_cons (pv 0) (pa_cons (pv 1) (pa_cons (pv 2) (pa_cons (pv 3) pa_nil))))) pa_nil))))
      (pss_cons (ps_set (i := 8) sc_Lworld.nd rfl (.inl rfl) (pe_lst (pa_cons (pe_tup (pa_cons pe_str (pa_cons (pe_op op_repA (pe_tup (pa_cons pe_int pa_nil)) (pv 4)) (pa_cons (pe_cmpR op_eq (pe_c c_Ldraw hr (by decide) (by rfl) (pa_cons (pv 0) (pa_cons pe_int pa_nil))) pe_int (nomark _)) (pa_cons pe_int pa_nil))))) (pa_cons (pe_c c_Lpick hr (by decide) (by rfl) (pa_cons (pv 0) (pa_cons (pe_lst (pa_cons (pe_tup (pa_cons pe_str (pa_cons (pv 6) pa_nil))) (pa_cons (pv 7) pa_nil))) pa_nil))) pa_nil))))
      (pss_cons (ps_set (i := 9) sc_Lworld.nd rfl (.inl rfl) (pe_op op_cat (pe_op op_cat (pe_slice sl_list (pv 8) po_none (po_some (pv 5))) (pe_lst (pa_cons (pv 7) pa_nil))) (pe_slice sl_list (pv 8) po_none (po_some (pe_c c_Ldraw hr (by decide) (by rfl) (pa_cons (pv 0) (pa_cons pe_int pa_nil)))))))
      (pss_cons (ps_set (i := 10) sc_Lworld.nd rfl (.inl rfl) (pe_callTy call_tuple_of (by rfl) T.b_tuple (by decide +kernel) (pa_cons (pe_lc (own := [("at", 11)]) rfl sc_Lworld.nd (pi_range1 (by rfl) T.b_range (pa_cons (pv 4) pa_nil)) (blkOk_by (N := n_Lworld) (sc := defScope s_Lworld) (by decide +kernel)) (fun _ _ _ _ _ => (pg_name (i := 11) sc_Lworld.nd rfl (.inl rfl))) (fun _ _ _ _ _ => pts_nil) (fun _ _ _ _ _ => (pe_tup (pa_cons (pe_ix ix_str pe_str (pv 11) (fun _ _ => rfl)) (pa_cons (pe_callB (id := "max") (call_max2 rfl) (by rfl) T.b_max (by decide +kernel) (pa_cons (pe_op op_sub pe_int (pe_op op_pow pe_int pe_int)) (pa_cons (pe_op op_sub (pe_ix (r := rIxT K) ix_tup (pe_ix (r := rIxT K) ix_tup (pv 1) (pv 11) (fun _ _ => rfl)) pe_int (fun _ _ => rfl)) pe_int) pa_nil))) (pa_cons (pe_op op_add (pe_ix (r := rIxT K) ix_tup (pe_ix (r := rIxT K) ix_tup (pv 1) (pv 11) (fun _ _ => rfl)) pe_int (fun _ _ => rfl)) (pe_c c_Ldraw hr (by decide) (by rfl) (pa_cons (pv 0) (pa_cons pe_int pa_nil)))) pa_nil)))))) pa_nil)))
      (pss_one (ps_ret (pe_tup (pa_cons (pe_mk m_Task hr (by decide) (by rfl) (pa_cons (pv 10) (pa_cons (pe_callTy call_tuple_of (by rfl) T.b_tuple (by decide +kernel) (pa_cons (pv 9) pa_nil)) (pa_cons (pe_op op_repA (pe_tup (pa_cons pe_int pa_nil)) (pv 4)) pa_nil)))) (pa_cons (pv 5) pa_nil))))))))))), ?_⟩
    refine ⟨_, rfl, pb, _, rfl, .inr (sq_tup hpb), ?_⟩
    rw [lb]
    refine ⟨_, rfl, h, q, 3, rfl, a0, by decide, by decide, fun x H1 x0 x1 a1 kp1 => ?_⟩
    obtain ⟨k, rfl⟩ : ∃ j : Nat, x = (j : Int) := ⟨x.toNat, by omega⟩
    have hk : k < 3 := by omega
    have bv1 : SV H1 (.ref pb) box := (show SV H (.ref pb) box from ⟨pb, bs, rfl, hpb, alb⟩).tk (TK.kp kp1 a0)
    refine ⟨_, _, rfl, ?_⟩
    -- the two other sums
    refine ⟨one_ok, fun l1 nl1 => ⟨_, rfl, rep_w b1 (by omega) upd_same fun p1 Ha sa ha => ⟨(by show 4 ≤ sizeLine; decide), fun t1 nt1 => ?_⟩⟩⟩
    have sa1 := (same_upd nl1).trans sa
    have kt1 := same_upd (o := .tup [.str "sum", .ref p1, .bl false, .int 3]) nt1
    have rv1 : RV (upd Ha t1 (.tup [.str "sum", .ref p1, .bl false, .int 3])) (.ref t1) ⟨List.replicate box.length 1, false, 3⟩ := ⟨t1, p1, rfl, upd_same, kt1 _ _ ha⟩
    have sb := sa1.trans kt1
    show tCons _ _ _ (upd Ha t1 (.tup [.str "sum", .ref p1, .bl false, .int 3])) _
    generalize upd Ha t1 (.tup [.str "sum", .ref p1, .bl false, .int 3]) = Hb at *
    refine ⟨_, _, rfl, rfl, one_ok, fun l2 nl2 => ⟨_, rfl, rep_w b1 (by omega) upd_same fun p2 Hc sc hc => ⟨_, _, rfl, rfl, (by show 4 ≤ sizeLine; decide), fun t2 nt2 => ?_⟩⟩⟩
    have sc1 := (same_upd nl2).trans sc
    have kt2 := same_upd (o := .tup [.str "sum", .ref p2, .bl false, .int (0 - 7)]) nt2
    have rv2 : RV (upd Hc t2 (.tup [.str "sum", .ref p2, .bl false, .int (0 - 7)])) (.ref t2) ⟨List.replicate box.length (0 - 2), false, 0 - 7⟩ := ⟨t2, p2, rfl, upd_same, kt2 _ _ hc⟩
    have rv1 := rv1.same (sc1.trans kt2)
    have sd := sb.trans (sc1.trans kt2)
    show tNil _ (upd Hc t2 (.tup [.str "sum", .ref p2, .bl false, .int (0 - 7)])) _
    generalize upd Hc t2 (.tup [.str "sum", .ref p2, .bl false, .int (0 - 7)]) = Hd at *
    refine ⟨len2, fun t3 nt3 => ?_⟩
    have kt3 := same_upd (o := .tup [.ref t1, .ref t2]) nt3
    have rsv : RsV (upd Hd t3 (.tup [.ref t1, .ref t2])) (.ref t3) [⟨List.replicate box.length 1, false, 3⟩, ⟨List.replicate box.length (0 - 2), false, 0 - 7⟩] := ⟨t3, _, rfl, upd_same, .cons (rv1.same kt3) (.cons (rv2.same kt3) .nil)⟩
    have se := sd.trans kt3
    generalize upd Hd t3 (.tup [.ref t1, .ref t2]) = H2 at *
    have a2 := a1.same se
    have kp2 := kp1.trans (.of_same (h := h) (q := q) se)
    -- the either
    refine ⟨_, rfl, _, rfl, _, rfl, _, rfl, h, q, .ref pb, box, n, m, rfl, a2, bv1.same se, b1, by omega, n2, n6, m1, m2, fun H3 v3 rs a3 kp3 rv3 lrs okr => ⟨len2, fun tm ntm => ?_⟩⟩
    have ktm := same_upd (o := .tup [.str "either", v3]) ntm
    have wm : WV (upd H3 tm (.tup [.str "either", v3])) (.ref tm) (.either rs) := ⟨tm, v3, rfl, upd_same, rv3.same ktm⟩
    have rsv4 : RsV (upd H3 tm (.tup [.str "either", v3])) (.ref t3) _ := (rsv.tk (TK.kp kp3 a2)).same ktm
    have bv4 : SV (upd H3 tm (.tup [.str "either", v3])) (.ref pb) box := ((bv1.same se).tk (TK.kp kp3 a2)).same ktm
    have a4 := a3.same ktm
    have kp4 : Kpt h q H (upd H3 tm (.tup [.str "either", v3])) := (kp2.trans kp3).trans (.of_same ktm)
    generalize upd H3 tm (.tup [.str "either", v3]) = H4 at *
    clear rv3 rsv bv1 a2 a3 kp2 kp3 a1 kp1 sd se sb rv1 rv2
    -- the others
    refine ⟨one_ok, fun l3 nl3 => ⟨_, rfl, rep_w b1 (by omega) upd_same fun p3 H5 s5 h5 => ?_⟩⟩
    have s45 := (same_upd nl3).trans s5
    refine ⟨_, rfl, h, q, 2, rfl, a4.same s45, by decide, by decide, fun d H6 d0 d1 a6 kp6 => ⟨rfl, (by show 4 ≤ sizeLine; decide), fun t4 nt4 => ?_⟩⟩
    have tk6 := TK.kp kp6 (a4.same s45)
    have kp46 : Kpt h q H4 H6 := (Kpt.of_same (h := h) (q := q) s45).trans kp6
    have tk46 := TK.kp kp46 a4
    have kt4 := same_upd (o := .tup [.str "sum", .ref p3, .bl (decide (V.int d = V.int 0)), .int 3]) nt4
    have rv1 : RV (upd H6 t4 (.tup [.str "sum", .ref p3, .bl (decide (V.int d = V.int 0)), .int 3])) (.ref t4) ⟨List.replicate box.length 1, decide (V.int d = V.int 0), 3⟩ := ⟨t4, p3, rfl, upd_same, kt4 _ _ (tk6 _ _ h5)⟩
    have wm7 := (wm.tk tk46).same kt4
    have rs7 := (rsv4.tk tk46).same kt4
    have bv7 := (bv4.tk tk46).same kt4
    have a7 := a6.same kt4
    have kp7 := (kp4.trans kp46).trans (.of_same (h := h) (q := q) kt4)
    show tCons _ _ _ (upd H6 t4 (.tup [.str "sum", .ref p3, .bl (decide (V.int d = V.int 0)), .int 3])) _
    generalize upd H6 t4 (.tup [.str "sum", .ref p3, .bl (decide (V.int d = V.int 0)), .int 3]) = H7 at *
    clear wm rsv4 bv4 a4 a6 kp4 kp6 kp46 tk46 tk6 s45 s5
    refine ⟨_, rfl, _, rfl, len2, fun t5 nt5 => ?_⟩
    have kt5 := same_upd (o := .tup [.str "either", .ref t3]) nt5
    have we : WV (upd H7 t5 (.tup [.str "either", .ref t3])) (.ref t5) (.either [⟨List.replicate box.length 1, false, 3⟩, ⟨List.replicate box.length (0 - 2), false, 0 - 7⟩]) := ⟨t5, .ref t3, rfl, upd_same, rs7.same kt5⟩
    show tCons _ _ _ (upd H7 t5 (.tup [.str "either", .ref t3])) _
    generalize upd H7 t5 (.tup [.str "either", .ref t3]) = H8 at *
    refine ⟨_, rfl, len2, fun pk npk => ?_⟩
    have kpk := same_upd (o := .lst [.ref t5, .ref tm]) npk
    have s79 := kt5.trans kpk
    obtain ⟨g1, g2⟩ := (a7.same kt5).fresh npk
    refine ⟨h, q, pk, _, rfl, a7.same s79, upd_same, g1, g2, by simp, (by show 2 ≤ 1000; decide), fun v2 HA mv aA kpA => ⟨len2, fun O nO => ?_⟩⟩
    have tkA := TK.kp kpA (a7.same s79)
    have okA : ∀ r ∈ rs, RowOk box.length r ∧ r.eq = false := fun r hr => ⟨⟨(okr r hr).len, (okr r hr).nz⟩, (okr r hr).eq⟩
    have bdA : WBd box.length (.either rs) := ⟨by omega, fun r hr => ⟨(okr r hr).am, (okr r hr).len, (okr r hr).bd⟩⟩
    obtain ⟨e2, we2, ok2, bd2⟩ : ∃ e2, WV HA v2 e2 ∧ WishOk box.length e2 ∧ WBd box.length e2 := by
      rcases List.mem_cons.mp mv with e | e
      · rw [e]
        refine ⟨_, (we.same kpk).tk tkA, ⟨(by show 2 ≤ 2; decide), (by show 2 ≤ 6; decide), fun r hr => ?_, by omega⟩, (by show 2 ≤ 6; decide), fun r hr => ?_⟩
        · rcases List.mem_cons.mp hr with e | e
          · rw [e]; exact ⟨⟨(rep_ok b1 (by decide)).1, (rep_ok b1 (by decide)).2⟩, rfl⟩
          · rw [List.mem_singleton.mp e]; exact ⟨⟨(rep_ok b1 (by decide)).1, (rep_ok b1 (by decide)).2⟩, rfl⟩
        · rcases List.mem_cons.mp hr with e | e
          · rw [e]; exact am_rep (by decide) (by decide)
          · rw [List.mem_singleton.mp e]; exact am_rep (by decide) (by decide)
      · rw [List.mem_singleton.mp e]
        exact ⟨.either rs, (wm7.same s79).tk tkA, ⟨by omega, by omega, okA, by omega⟩, bdA⟩
    have w1 : WV HA (.ref t4) (.sum ⟨List.replicate box.length 1, decide (V.int d = V.int 0), 3⟩) := (show WV H7 _ (.sum _) from rv1).same s79 |>.tk tkA
    have ok1 : WishOk box.length (.sum ⟨List.replicate box.length 1, decide (V.int d = V.int 0), 3⟩) := ⟨⟨(rep_ok b1 (by decide)).1, (rep_ok b1 (by decide)).2⟩, by omega⟩
    have bd1 : WBd box.length (.sum ⟨List.replicate box.length 1, decide (V.int d = V.int 0), 3⟩) := am_rep (by decide) (by decide)
    have sum1 : ∃ r, (Wish.sum ⟨List.replicate box.length 1, decide (V.int d = V.int 0), 3⟩) = Wish.sum r := ⟨_, rfl⟩
    generalize (Wish.sum ⟨List.replicate box.length 1, decide (V.int d = V.int 0), 3⟩) = e1 at *
    have wmA := (wm7.same s79).tk tkA
    have bvA := (bv7.same s79).tk tkA
    have kpA' := (kp7.trans (.of_same (h := h) (q := q) s79)).trans kpA
    have kO := same_upd (o := .lst [.ref t4, v2]) nO
    have eO : upd HA O (.lst [.ref t4, v2]) O = some (.lst [.ref t4, v2]) := upd_same
    have wvs : WVs (upd HA O (.lst [.ref t4, v2])) [.ref t4, v2] [e1, e2] := .cons (w1.same kO) (.cons (we2.same kO) .nil)
    have wmB := wmA.same kO
    have bvB := bvA.same kO
    have aB := aA.same kO
    have kpB : Kpt h q H _ := kpA'.trans (.of_same kO)
    obtain ⟨O1, O2⟩ := aA.fresh nO
    generalize upd HA O (.lst [.ref t4, v2]) = HB at *
    clear w1 we2 wmA bvA kpA' tkA mv aA kpA wm7 rs7 bv7 a7 kp7 rv1 we s79
    -- the wishes
    refine ⟨_, rfl, _, rfl, _, rfl, O, _, rfl, sq_lst eO, fun p5 np5 => ?_⟩
    rw [cut_to (by show k ≤ 2; omega)]
    have k5 := same_upd (o := .lst (([.ref t4, v2] : List V).take k)) np5
    have e5 : upd HB p5 (.lst (([.ref t4, v2] : List V).take k)) p5 = some (.lst (([.ref t4, v2] : List V).take k)) := upd_same
    generalize upd HB p5 (.lst (([.ref t4, v2] : List V).take k)) = HC at *
    refine ⟨_, rfl, one_ok, fun p6 np6 => ?_⟩
    have k6 := same_upd (o := .lst [.ref tm]) np6
    have e6 : upd HC p6 (.lst [.ref tm]) p6 = some (.lst [.ref tm]) := upd_same
    have e5 := k6 _ _ e5
    have k56 := k5.trans k6
    generalize upd HC p6 (.lst [.ref tm]) = HD at *
    refine ⟨p5, p6, _, _, rfl, rfl, e5, e6, small1001 (by rw [List.length_take, List.length_singleton]; omega), fun p7 np7 => ?_⟩
    have k7 := same_upd (o := .lst (([.ref t4, v2] : List V).take k ++ [.ref tm])) np7
    have e7 : upd HD p7 (.lst (([.ref t4, v2] : List V).take k ++ [.ref tm])) p7 = some (.lst (([.ref t4, v2] : List V).take k ++ [.ref tm])) := upd_same
    have k57 := k56.trans k7
    have aE := aB.same k57
    have eO7 := k57 _ _ eO
    obtain ⟨q1, q2⟩ := (aB.same k56).fresh np7
    generalize upd HD p7 (.lst (([.ref t4, v2] : List V).take k ++ [.ref tm])) = HE at *
    refine ⟨_, rfl, _, rfl, h, q, 3, rfl, aE, by decide, by decide, fun x3 HF y0 y1 aF kpF => ⟨_, rfl, O, _, rfl, sq_lst (kpF _ _ eO7 O1 O2), fun p8 np8 => ?_⟩⟩
    obtain ⟨k3, rfl⟩ : ∃ j : Nat, x3 = (j : Int) := ⟨x3.toNat, by omega⟩
    have hk3 : k3 < 3 := by omega
    rw [cut_to (by show k3 ≤ 2; omega)]
    have k8 := same_upd (o := .lst (([.ref t4, v2] : List V).take k3)) np8
    have e8 : upd HF p8 (.lst (([.ref t4, v2] : List V).take k3)) p8 = some (.lst (([.ref t4, v2] : List V).take k3)) := upd_same
    have e7 := k8 _ _ (kpF _ _ e7 q1 q2)
    have kpBG : Kpt h q HB (upd HF p8 (.lst (([.ref t4, v2] : List V).take k3))) := ((Kpt.of_same k57).trans kpF).trans (.of_same k8)
    have aG := aF.same k8
    generalize upd HF p8 (.lst (([.ref t4, v2] : List V).take k3)) = HG at *
    refine ⟨p7, p8, _, _, rfl, rfl, e7, e8, small1001 (by rw [List.length_append, List.length_take, List.length_take, List.length_singleton]; omega), fun W nW => ?_⟩
    have kW := same_upd (o := .lst (([.ref t4, v2] : List V).take k ++ [.ref tm] ++ ([.ref t4, v2] : List V).take k3)) nW
    have eW : upd HG W (.lst (([.ref t4, v2] : List V).take k ++ [.ref tm] ++ ([.ref t4, v2] : List V).take k3)) W = some (.lst (([.ref t4, v2] : List V).take k ++ [.ref tm] ++ ([.ref t4, v2] : List V).take k3)) := upd_same
    have kpBH := kpBG.trans (.of_same kW)
    have aH := aG.same kW
    obtain ⟨W1, W2⟩ := aG.fresh nW
    generalize upd HG W (.lst (([.ref t4, v2] : List V).take k ++ [.ref tm] ++ ([.ref t4, v2] : List V).take k3)) = HH at *
    have tkB := TK.kp kpBH aB
    have wvH : WVs HH (([.ref t4, v2] : List V).take k ++ [.ref tm] ++ ([.ref t4, v2] : List V).take k3) ([e1, e2].take k ++ [.either rs] ++ [e1, e2].take k3) :=
      (((wvs.tk tkB).take k).cat (.cons (wmB.tk tkB) .nil)).cat ((wvs.tk tkB).take k3)
    have atW : ([e1, e2].take k ++ [Wish.either rs] ++ [e1, e2].take k3)[k]? = some (Wish.either rs) := by
      rw [List.append_assoc, List.getElem?_append_right (by rw [List.length_take]; show min k 2 ≤ k; omega), List.length_take]
      have : k - min k [e1, e2].length = 0 := by show k - min k 2 = 0; omega
      rw [this]; rfl
    have nxW : ∀ z, ([e1, e2].take k ++ [Wish.either rs] ++ [e1, e2].take k3)[k + 1]? = some z → ∃ r, z = .sum r := by
      obtain ⟨r1, er⟩ := sum1
      have c1 : ∀ (k k3 : Nat), k < 3 → k3 < 3 → ∀ z, ([e1, e2].take k ++ [Wish.either rs] ++ [e1, e2].take k3)[k + 1]? = some z → z = e1 := fun k k3 h1 h2 z hz => by
        match k, h1, k3, h2 with
        | 0, _, 0, _ => cases hz
        | 0, _, 1, _ => cases hz; rfl
        | 0, _, 2, _ => cases hz; rfl
        | 1, _, 0, _ => cases hz
        | 1, _, 1, _ => cases hz; rfl
        | 1, _, 2, _ => cases hz; rfl
        | 2, _, 0, _ => cases hz
        | 2, _, 1, _ => cases hz; rfl
        | 2, _, 2, _ => cases hz; rfl
      exact fun z hz => ⟨r1, (c1 k k3 hk hk3 z hz).trans er⟩
    have z0W : 0 < k → ∃ r, ([e1, e2].take k ++ [Wish.either rs] ++ [e1, e2].take k3)[0]? = some (.sum r) := by
      obtain ⟨r1, er⟩ := sum1
      have c1 : ∀ (k : Nat), k < 3 → 0 < k → ([e1, e2].take k ++ [Wish.either rs] ++ [e1, e2].take k3)[0]? = some e1 := fun k h1 h0 => by
        match k, h1, h0 with
        | 1, _, _ => rfl
        | 2, _, _ => rfl
      exact fun h => ⟨r1, by rw [c1 k hk h, er]⟩
    have lenW : ([e1, e2].take k ++ [Wish.either rs] ++ [e1, e2].take k3).length ≤ 5 := by
      rw [List.length_append, List.length_append, List.length_take, List.length_take, List.length_singleton]
      show min k 2 + 1 + min k3 2 ≤ 5
      omega
    have okW : ∀ z ∈ [e1, e2].take k ++ [Wish.either rs] ++ [e1, e2].take k3, WishOk box.length z ∧ WBd box.length z := fun z hz => by
      have two : ∀ j : Nat, z ∈ [e1, e2].take j → WishOk box.length z ∧ WBd box.length z := fun j hj => by
        rcases List.mem_cons.mp (List.mem_of_mem_take hj) with e | e
        · rw [e]; exact ⟨ok1, bd1⟩
        · rw [List.mem_singleton.mp e]; exact ⟨ok2, bd2⟩
      rcases List.mem_append.mp hz with e | e
      · rcases List.mem_append.mp e with e | e
        · exact two _ e
        · rw [List.mem_singleton.mp e]
          exact ⟨⟨by omega, by omega, okA, by omega⟩, bdA⟩
      · exact two _ e
    generalize ([e1, e2].take k ++ [Wish.either rs] ++ [e1, e2].take k3) = wl at *
    generalize (([.ref t4, v2] : List V).take k ++ [.ref tm] ++ ([.ref t4, v2] : List V).take k3) = wvl at *
    have bvH := bvB.tk tkB
    have kpH := kpB.trans kpBH
    clear kpBH kpBG kpF aF aE wvs wmB bvB kpB aB tkB e8 e7 e6 e5 eO eO7 k5 k6 k56 k57 aG
    -- the unknowns
    obtain ⟨_, bs2, eb, hpb2, alb2⟩ := bvH
    cases eb
    have lb2 := alb2.len
    refine ⟨_, rfl, (box.length : Int), rfl, by omega, by omega, fun D nD => ?_⟩
    obtain ⟨D1, D2⟩ := aH.fresh nD
    refine lc_range (lo := 0) (n := ((box.length : Nat) : Int).toNat) (fun i H' => ∃ us ul, H' D = some (.lst us) ∧ UVs H' us ul ∧ ul.length = i ∧ Ul ul ∧ HpAt H' h q ∧ Kpt h q HH H') ⟨[], [], upd_same, .nil, rfl, fun i u e => by simp at e, aH.upd D1 D2, .of_same (same_upd nD)⟩ (fun i H3 hi hI => ?_) (fun H3 hI => ?_)
    · obtain ⟨us, ul, eD, uv, lu, nmu, a3, kp3⟩ := hI
      rw [Int.toNat_natCast] at hi
      rw [show ((0 : Int) + (i : Nat)) = (i : Int) by omega]
      have hq : box[i]? = some (box[i]'hi) := List.getElem?_eq_getElem _
      generalize box[i]'hi = p at *
      obtain ⟨u, hu, pf, rfl, hpf⟩ := alb2.at2 hq
      have tk3 := TK.kp kp3 aH
      have hb3 := tk3 _ _ hpb2
      have hf3 := tk3 _ _ hpf
      have lo := blo p (List.mem_of_getElem? hq)
      refine ⟨rfl, _, rfl, "abcdefg", (i : Int), 97 + i, rfl, rfl, (by show 7 ≤ sizeLine; decide), atI_nat (at_letter ⟨i, by omega⟩), ?_⟩
      refine ⟨_, _, rfl, rfl, cpow6, _, _, rfl, rfl, _, rfl, _, rfl, pb, _, (i : Int), .ref pf, rfl, rfl, sq_tup hb3, atI_nat hu, pf, _, 0, _, rfl, rfl, sq_tup hf3, rfl, _, _, rfl, rfl, _, _, rfl, ?_⟩
      refine ⟨_, rfl, _, rfl, pb, _, (i : Int), .ref pf, rfl, rfl, sq_tup hb3, atI_nat hu, pf, _, 0, _, rfl, rfl, sq_tup hf3, rfl, _, rfl, h, q, 3, rfl, a3, by decide, by decide, fun d H4 d0 d1 a4 kp4 => ⟨_, _, rfl, rfl, (by show 3 ≤ sizeLine; decide), fun pn npn => ?_⟩⟩
      have hle : (if p.1 - 1 > 0 - (10 : Int) ^ (6 : Int).toNat then p.1 - 1 else 0 - (10 : Int) ^ (6 : Int).toNat) ≤ p.1 + d := by
        rw [p106]; split <;> omega
      have nmi := nmu.app hle
      rw [lu] at nmi
      generalize (if p.1 - 1 > 0 - (10 : Int) ^ (6 : Int).toNat then p.1 - 1 else 0 - (10 : Int) ^ (6 : Int).toNat) = lw at *
      have kn := same_upd (o := .tup [.str (nm1 i), .int lw, .int (p.1 + d)]) npn
      have hn : upd H4 pn (.tup [.str (nm1 i), .int lw, .int (p.1 + d)]) pn = some (.tup [.str (nm1 i), .int lw, .int (p.1 + d)]) := upd_same
      have kp4' := kp4.trans (.of_same (h := h) (q := q) kn)
      have a5 := a4.same kn
      have eD5 := kp4' _ _ eD D1 D2
      have lus := uv.len
      have uv5 := uv.tk (TK.kp kp4' a3)
      have tk5 := TK.put (o := .lst (us ++ [.ref pn])) eD5
      exact ⟨us, eD5, small1000 (by omega), us ++ [.ref pn], ul ++ [(nm1 i, lw, p.1 + d)], upd_same, (uv5.tk tk5).app (u := (nm1 i, lw, p.1 + d)) ⟨pn, rfl, tk5 _ _ hn⟩, by rw [List.length_append, lu]; rfl, nmi, a5.upd D1 D2, (kp3.trans kp4').at_new nD⟩
    · obtain ⟨us, ul, eD, uv, lu, nmu, a3, kp3⟩ := hI
      rw [Int.toNat_natCast] at lu
      refine ⟨D, _, rfl, .inl ⟨sq_lst eD, fun pu npu => ?_⟩⟩
      have ku := same_upd (o := .tup us) npu
      have hpu : upd H3 pu (.tup us) pu = some (.tup us) := upd_same
      have kpu := kp3.trans (.of_same (h := h) (q := q) ku)
      have uv6 := uv.same ku
      have au := a3.same ku
      show gName 10 (.ref pu) _ (upd H3 pu (.tup us)) _
      generalize upd H3 pu (.tup us) = H6 at *
      have eW6 := kpu _ _ eW W1 W2
      have wv6 := wvH.tk (TK.kp kpu aH)
      refine ⟨_, rfl, _, rfl, W, _, rfl, .inl ⟨sq_lst eW6, fun pw npw => ?_⟩⟩
      have kw := same_upd (o := .tup wvl) npw
      have hpw : upd H6 pw (.tup wvl) pw = some (.tup wvl) := upd_same
      have sw6 := kw
      show tCons _ _ _ (upd H6 pw (.tup wvl)) _
      generalize upd H6 pw (.tup wvl) = H7 at *
      refine ⟨one_ok, fun l9 nl9 => ⟨_, rfl, rep_w b1 (by omega) upd_same fun pg HJ sJ hg => ?_⟩⟩
      have s7J := (same_upd nl9).trans sJ
      refine fun xn dn nx ndx nxd => ?_
      have y6 := same_upd (o := .own xn) ndx
      have nx6 : upd HJ dn (.own xn) xn = none := by rw [upd_ne nxd.symm]; exact nx
      have y7 := y6.trans (same_upd (o := .ins C dn []) nx6)
      have z7 : upd (upd HJ dn (.own xn)) xn (.ins C dn []) xn = some (.ins C dn []) := upd_same
      generalize upd (upd HJ dn (.own xn)) xn (.ins C dn []) = HK at *
      have s7K := s7J.trans y7
      have s6K := sw6.trans s7K
      have len : (List.replicate box.length (1 : Int)).length = ul.length := by rw [List.length_replicate, lu]
      refine ⟨xn, dn, pu, pw, pg, us, wvl, ul, wl, _, rfl, z7, s6K _ _ hpu, uv6.same s6K, s7K _ _ hpw, wv6.same s6K, y7 _ _ hg, nmu.ok (by omega) (by omega), fun z hz => by rw [lu]; exact (okW z hz).1, len, fun HL sL => ?_⟩
      have sJM : Same HJ (upd HL xn (.ins C dn [("unknowns", .ref pu), ("wishes", .ref pw), ("goal", .ref pg)])) := same_at (y7.trans sL) nx
      have hx : upd HL xn (.ins C dn [("unknowns", .ref pu), ("wishes", .ref pw), ("goal", .ref pg)]) xn = some (.ins C dn [("unknowns", .ref pu), ("wishes", .ref pw), ("goal", .ref pg)]) := upd_same
      refine ⟨rfl, _, rfl, len2, fun pt npt => ?_⟩
      generalize upd HL xn (.ins C dn [("unknowns", .ref pu), ("wishes", .ref pw), ("goal", .ref pg)]) = HM at *
      have kt := same_upd (o := .tup [.ref xn, .int (k : Nat)]) npt
      have s7N := (s7J.trans sJM).trans kt
      have s6N := sw6.trans s7N
      have tvN : TaskV C (upd HM pt (.tup [.ref xn, .int (k : Nat)])) (.ref xn) ul wl (List.replicate box.length 1) := ⟨xn, dn, pu, pw, pg, us, wvl, rfl, kt _ _ hx, s6N _ _ hpu, uv6.same s6N, s7N _ _ hpw, wv6.same s6N, (sJM.trans kt) _ _ hg⟩
      exact fin _ (.ref pt) (.ref xn) k rs ul wl _ (au.same s6N) ((kpH.trans kpu).trans (.of_same s6N)) ⟨pt, rfl, upd_same⟩ ⟨tvN, lu, atW, lenW, by omega, okr, fun z hz => (okW z hz).2, nxW, z0W⟩ lrs
end
end M66

namespace M66
open PySem PySem.Spec PyProof.Rows L2 SX Own Gd
open C8 (Cal pe_c pe_gc pe_mk Mak pss_cut)
def dueR (rs : List Row) (box : List Fr) : List Row := (opn rs box).map (rowAt rs)
/-- the wish that is left -/
def LeftV (H : Hp) (v : V) : List Row → Prop
  | [] => v = .non
  | [r] => RV H v r
  | rs => WV H v (.either rs)
theorem opn_lt {rs : List Row} {box : List Fr} {i : Nat} (h : i ∈ opn rs box) : i < rs.length := List.mem_range.mp (List.mem_filter.mp h).1
theorem opn_len {rs : List Row} {box : List Fr} : (opn rs box).length ≤ rs.length := Nat.le_trans (List.length_filter_le ..) (by rw [List.length_range]; exact Nat.le_refl _)
theorem nat_at {l : List Nat} {i : Nat} {v : V} (h : ((natI l).map V.int)[i]? = some v) : ∃ j, l[i]? = some j ∧ v = .int (j : Nat) := by
  unfold natI at h
  rw [List.map_map] at h
  exact at_map h
theorem natI_len (l : List Nat) : ((natI l).map V.int).length = l.length := by unfold natI; rw [List.length_map, List.length_map]
theorem row_get {rs : List Row} {j : Nat} (h : j < rs.length) : rs[j]? = some (rowAt rs j) := by
  rw [List.getElem?_eq_getElem h, rowAt_of (List.getElem?_eq_getElem h)]
section
variable {P : Program} {w : World} {K : PySem.W.Frag} {mg : Str → Option Value} {base : Heap} {aW aT : Addr} {es : Array DictEntry} {nn : Nat}
abbrev s_either_left : Stmt := topS 39
abbrev n_either_left : List Str := ["task", "number", "box", "sums", "left", "at"]
theorem sc_either_left : FnScope n_either_left ["task", "number", "box"] (defScope s_either_left) := ⟨rfl, rfl, rfl, by decide +kernel, rfl, by decide +kernel, by decide +kernel⟩
def spLeft (C CR : Addr) : Sp := fun vs H Q E => ∃ (tv x b : V) (ul : List Unk) (wl : List Wish) (goal : List Int) (box : List Fr), vs = [tv, x, b] ∧ TaskV C H tv ul wl goal ∧ wl.length ≤ 100 ∧
  ((∃ (k : Nat) (rs : List Row), x = .int k ∧ wl[k]? = some (.either rs) ∧ SV H b box ∧ RsOk rs box.length ∧ ∀ H' v, Same H H' → LeftV H' v (dueR rs box) → Q v H') ∨ (Odd H wl x ∧ ∀ d H2, Same H H2 → H2 d = some (.xd [("word", .str "wish")]) → E (.ref CR) (some d) H2))
theorem ok_either_left {f C CR : Addr} {fd : FuncData} (F : Fun K "either_left" "either_left" s_either_left f fd) (T : Txt K mg w aW aT es nn) (x_sums_of : CalX P w K mg base 4 "_sums_of" (spSums C CR)) (x_open_sums : CalX P w K mg base 5 "open_sums" (spOpen C CR)) : FnOk P w K mg base (L2.CX P w) 6 f fd ["task", "number", "box"] (spLeft C CR) := by
  refine F.okX sc_either_left (fun vs H Q E h => ?_) (fun cdv A outer s H vs Q E hr h => ?_)
  · obtain ⟨tv, x, b, ul, wl, goal, box, rfl, _⟩ := h
    rfl
  · obtain ⟨tv, x, b, ul, wl, goal, box, rfl, tk0, lw, h⟩ := h
    refine ⟨_, (pss_cons (ps_set (i := 3) sc_either_left.nd rfl (.inr rfl) (pe_xE (E := E) (passes_call (takes_of rfl rfl rfl rfl) fun _ _ _ _ z => z) x_sums_of hr (by decide) (by rfl) (pa_cons (pv 0) (pa_cons (pv 1) pa_nil))))
      (pss_cons (ps_set (i := 4) sc_either_left.nd rfl (.inl rfl) (pe_callTy call_tuple_of (by rfl) T.b_tuple (by decide +kernel) (pa_cons (pe_lc (own := [("at", 5)]) rfl sc_either_left.nd (pi_tup (pe_xE (E := E) (passes_call (takes_of rfl rfl rfl rfl) fun _ _ _ _ z => z) x_open_sums hr (by decide) (by rfl) (pa_cons (pv 0) (pa_cons (pv 1) (pa_cons (pv 2) pa_nil))))) (blkOk_by (N := n_either_left) (sc := defScope s_either_left) (by decide +kernel)) (fun _ _ _ _ _ => (pg_name (i := 5) sc_either_left.nd rfl (.inl rfl))) (fun _ _ _ _ _ => pts_nil) (fun _ _ _ _ _ => (pe_ix (r := rIxT K) ix_tup (pv 3) (pv 5) (fun _ _ => rfl)))) pa_nil)))
      (pss_cons (ps_if (pt_cmpR op_gt (pe_callB call_len_seq (by rfl) T.b_len (by decide +kernel) (pa_cons (pv 4) pa_nil)) pe_int (nomark _)) (pss_one (ps_ret (pe_tup (pa_cons pe_str (pa_cons (pv 4) pa_nil))))) pss_nil)
      (pss_one (ps_ret (pe_ifExp (pt_truth (pv 4) (by intro _; rfl)) (pe_ix ix_tup (pv 4) pe_int (fun _ _ => rfl)) pe_non)))))), ?_⟩
    rcases h with ⟨k, rs, rfl, hk, bv, ok, fin⟩ | ⟨odd, fin⟩
    · refine ⟨_, rfl, _, rfl, tv, _, ul, wl, goal, rfl, tk0, lw, .inl ⟨k, rs, rfl, hk, fun H1 v s1 rv => ?_⟩⟩
      obtain ⟨pr, us, rfl, hpr, al⟩ := rv
      have lu := al.len
      refine ⟨_, rfl, _, rfl, _, rfl, tv, _, b, ul, wl, goal, box, rfl, same_tv tk0 s1, lw, .inl ⟨k, rs, rfl, hk, bv.same s1, ok, fun H2 v2 s2 lv => ?_⟩⟩
      obtain ⟨po, rfl, hpo⟩ := lv
      have ol := opn_len (rs := rs) (box := box)
      have l6 := ok.1
      refine ⟨po, rfl, ⟨_, sq_tup hpo⟩, fun D nD => ?_⟩
      refine lc_tup (K := K) (a := po) (xs := (natI (opn rs box)).map V.int) (fun i H' => ∃ vs, H' D = some (.lst vs) ∧ All2 (RV H') vs ((dueR rs box).take i) ∧ Same H2 H') ⟨[], upd_same, .nil, same_upd nD⟩ (fun i H' _ h => by obtain ⟨_, _, _, s⟩ := h; exact sq_tup (s _ _ hpo)) ?_ ?_
      · rintro i v H3 hv ⟨vs, hD, a3, s3⟩
        obtain ⟨j, hj, rfl⟩ := nat_at hv
        have lj := opn_lt (List.mem_of_getElem? hj)
        obtain ⟨u, hu, ru⟩ := al.at2 (row_get lj)
        have s13 := s2.trans s3
        have tk := (TK.of s13).trans (TK.put (o := .lst (vs ++ [u])) hD)
        have la := a3.len
        rw [List.length_take] at la
        have li := (List.getElem?_eq_some_iff.mp hj).1
        refine ⟨rfl, _, rfl, _, rfl, pr, _, _, u, rfl, rfl, sq_tup (s13 _ _ hpr), atI_nat hu, vs, hD, small1000 (by omega), vs ++ [u], upd_same, ?_, same_at s3 nD⟩
        have e : (dueR rs box).take (i + 1) = (dueR rs box).take i ++ [rowAt rs j] := by
          refine take_one ?_
          unfold dueR
          rw [List.getElem?_map, hj]; rfl
        rw [e]
        exact (a3.mono fun v r g => g.tk (TK.put hD)).app (ru.tk tk)
      · rintro H3 ⟨vs, hD, a3, s3⟩
        rw [natI_len] at a3
        have ld : (dueR rs box).length = (opn rs box).length := by unfold dueR; rw [List.length_map]
        rw [List.take_of_length_le (by omega)] at a3
        have la := a3.len
        refine ⟨D, _, rfl, .inl ⟨sq_lst hD, fun l nl => ?_⟩⟩
        have sl := same_upd (o := .tup vs) nl
        have hl : upd H3 l (.tup vs) l = some (.tup vs) := upd_same
        have s14 := (s1.trans (s2.trans s3)).trans sl
        have a4 := a3.mono fun v r (g : RV H3 v r) => g.same sl
        generalize upd H3 l (.tup vs) = H4 at *
        refine ⟨_, rfl, l, _, rfl, .inr (sq_tup hl), _, _, rfl, rfl, _, rfl, ite2 (fun c => ?_) (fun c => ?_)⟩
        · have c : (1 : Int) < (vs.length : Nat) := of_decide_eq_true c
          refine ⟨_, rfl, len2, fun p np => ?_⟩
          have sp := same_upd (o := .tup [.str "either", .ref l]) np
          refine fin _ (.ref p) (s14.trans sp) ?_
          match hd : dueR rs box with
          | [] => rw [hd] at la; rw [la] at c; exact absurd c (by decide)
          | [r] => rw [hd] at la; rw [la] at c; exact absurd c (show ¬ (1 : Int) < ((1 : Nat) : Int) by decide)
          | r1 :: r2 :: rt =>
            rw [hd] at a4
            exact ⟨p, .ref l, rfl, upd_same, l, vs, rfl, sp _ _ hl, a4.mono fun v r g => g.same sp⟩
        · have c : ¬ (1 : Int) < (vs.length : Nat) := fun z => c (decide_eq_true z)
          match hd : dueR rs box, vs, a4 with
          | [], _, .nil =>
            refine ⟨_, rfl, false, .inr (.inl ⟨_, sq_tup hl, rfl⟩), iteF ?_⟩
            exact fin _ .non s14 (by rw [hd]; rfl)
          | [r], _, .cons g .nil =>
            refine ⟨_, rfl, true, .inr (.inl ⟨_, sq_tup hl, rfl⟩), iteT ?_⟩
            exact ⟨_, rfl, l, _, 0, _, rfl, rfl, sq_tup hl, rfl, fin _ _ s14 (by rw [hd]; exact g)⟩
          | r1 :: r2 :: rt, v1 :: v2 :: vt, _ =>
            simp only [List.length_cons] at c
            omega
    · exact ⟨_, rfl, _, rfl, tv, x, ul, wl, goal, rfl, tk0, lw, .inr ⟨odd, fin⟩⟩
end
end M66

namespace M66
open PySem PySem.Spec PyProof.Rows L2 SX Own Gd
open C8 (Cal pe_c pe_gc pe_mk Mak pss_cut)
def negR (r : Row) : Row := ⟨r.am.map (- ·), false, -r.bd⟩
def sureP (rs : List Row) (box : List Fr) (i : Nat) : Bool := decide ((rowAt rs i).bd ≤ -topF (negR (rowAt rs i)).am box)
theorem first_of {f : Nat → Bool} {i n : Nat} (h : (List.range i).filter f = []) (hi : i < n) (fi : f i = true) : ∃ t, (List.range n).filter f = i :: t := by
  obtain ⟨m, rfl⟩ : ∃ m, n = i + (m + 1) := ⟨n - i - 1, by omega⟩
  rw [List.range_add, List.filter_append, h, List.nil_append, List.range_succ_eq_map, List.map_cons, List.filter_cons, if_pos (by rw [Nat.add_zero]; exact fi)]
  exact ⟨_, rfl⟩
/-- the first one of some numbers, or None -/
def firstV : List Nat → V
  | [] => .non
  | i :: _ => .int (i : Nat)
section
variable {P : Program} {w : World} {K : PySem.W.Frag} {mg : Str → Option Value} {base : Heap} {aW aT : Addr} {es : Array DictEntry} {nn : Nat}
abbrev s_either_point : Stmt := topS 40
abbrev n_either_point : List Str := ["task", "number", "box", "left", "coefficients", "times", "low", "high"]
theorem sc_either_point : FnScope n_either_point ["task", "number", "box"] (defScope s_either_point) := ⟨rfl, rfl, rfl, by decide +kernel, rfl, by decide +kernel, by decide +kernel⟩
def PtV (H : Hp) (v : V) (rs : List Row) (box : List Fr) : Prop := match dueR rs box with
  | [] => v = .non
  | r :: _ => LV H v (corner r.am box)
def spPoint (C CR : Addr) : Sp := fun vs H Q E => ∃ (tv x b : V) (ul : List Unk) (wl : List Wish) (goal : List Int) (box : List Fr), vs = [tv, x, b] ∧ TaskV C H tv ul wl goal ∧ wl.length ≤ 100 ∧
  ((∃ (k : Nat) (rs : List Row), x = .int k ∧ wl[k]? = some (.either rs) ∧ SV H b box ∧ box.length ≤ 100 ∧ RsOk rs box.length ∧ ∀ H' v, Same H H' → PtV H' v rs box → Q v H') ∨ (Odd H wl x ∧ ∀ d H2, Same H H2 → H2 d = some (.xd [("word", .str "wish")]) → E (.ref CR) (some d) H2))
theorem ok_either_point {f C CR : Addr} {fd : FuncData} (F : Fun K "either_point" "either_point" s_either_point f fd) (T : Txt K mg w aW aT es nn) (x_sums_of : CalX P w K mg base 4 "_sums_of" (spSums C CR)) (x_open_sums : CalX P w K mg base 5 "open_sums" (spOpen C CR)) : FnOk P w K mg base (L2.CX P w) 6 f fd ["task", "number", "box"] (spPoint C CR) := by
  refine F.okX sc_either_point (fun vs H Q E h => ?_) (fun cdv A outer s H vs Q E hr h => ?_)
  · obtain ⟨tv, x, b, ul, wl, goal, box, rfl, _⟩ := h
    rfl
  · obtain ⟨tv, x, b, ul, wl, goal, box, rfl, tk0, lw, h⟩ := h
    refine ⟨_, (pss_cons (ps_set (i := 3) sc_either_point.nd rfl (.inl rfl) (pe_xE (E := E) (passes_call (takes_of rfl rfl rfl rfl) fun _ _ _ _ z => z) x_open_sums hr (by decide) (by rfl) (pa_cons (pv 0) (pa_cons (pv 1) (pa_cons (pv 2) pa_nil)))))
      (pss_cons (ps_if (pt_not (pt_truth (pv 3) (by intro _; rfl))) (pss_one (ps_ret pe_non)) pss_nil)
      (pss_cons (ps_set (i := 4) sc_either_point.nd rfl (.inl rfl) (pe_ix ix_tup (pe_ix ix_tup (pe_xE (E := E) (passes_call (takes_of rfl rfl rfl rfl) fun _ _ _ _ z => z) x_sums_of hr (by decide) (by rfl) (pa_cons (pv 0) (pa_cons (pv 1) pa_nil))) (pe_ix ix_tup (pv 3) pe_int (fun _ _ => rfl)) (fun _ _ => rfl)) pe_int (fun _ _ => rfl)))
      (pss_one (ps_ret (pe_callTy call_tuple_of (by rfl) T.b_tuple (by decide +kernel) (pa_cons (pe_lc (own := [("times", 5), ("low", 6), ("high", 7)]) (g := (gTup K 2 (gCons (gName 5) (gCons (gTup K 2 (gCons (gName 6) (gCons (gName 7) gNil))) gNil)))) rfl sc_either_point.nd (RZ.pi_zipA (by rfl) T.b_zip (pa_cons (pv 4) (pa_cons (pv 2) pa_nil))) (blkOk_by (N := n_either_point) (sc := defScope s_either_point) (by decide +kernel)) (fun _ _ _ _ _ => (pg_tup rfl (pgs_cons (pg_name (i := 5) sc_either_point.nd rfl (.inl rfl)) (pgs_cons (pg_tup rfl (pgs_cons (pg_name (i := 6) sc_either_point.nd rfl (.inl rfl)) (pgs_cons (pg_name (i := 7) sc_either_point.nd rfl (.inl rfl)) pgs_nil))) pgs_nil)))) (fun _ _ _ _ _ => pts_nil) (fun _ _ _ _ _ => (pe_ifExp (pt_cmpR op_gt (pv 5) pe_int (nomark _)) (pv 7) (pv 6)))) pa_nil))))))), ?_⟩
    rcases h with ⟨k, rs, rfl, hk, bv, b100, ok, fin⟩ | ⟨odd, fin⟩
    · refine ⟨_, rfl, _, rfl, _, rfl, tv, _, b, ul, wl, goal, box, rfl, tk0, lw, .inl ⟨k, rs, rfl, hk, bv, ok, fun H2 v2 s2 lv => ?_⟩⟩
      obtain ⟨po, rfl, hpo⟩ := lv
      match hd : opn rs box with
      | [] =>
        rw [hd] at hpo
        refine ⟨_, rfl, false, .inr (.inl ⟨_, sq_tup hpo, rfl⟩), iteT ?_⟩
        exact fin _ .non s2 (by unfold PtV dueR; rw [hd]; rfl)
      | i0 :: it =>
        have l0 : i0 < rs.length := opn_lt (by rw [hd]; exact List.mem_cons_self ..)
        rw [hd] at hpo
        refine ⟨_, rfl, true, .inr (.inl ⟨_, sq_tup hpo, rfl⟩), iteF ?_⟩
        refine ⟨_, rfl, _, rfl, tv, _, ul, wl, goal, rfl, same_tv tk0 s2, lw, .inl ⟨k, rs, rfl, hk, fun H3 v s3 rv => ?_⟩⟩
        obtain ⟨pr, us, rfl, hpr, al⟩ := rv
        obtain ⟨u, hu, ru⟩ := al.at2 (row_get l0)
        obtain ⟨lr, ar⟩ := ok.2 _ (List.mem_of_getElem? (row_get l0))
        obtain ⟨p, qa, rfl, hp, hqa⟩ := id ru
        refine ⟨_, rfl, po, _, 0, .int (i0 : Nat), rfl, rfl, sq_tup (s3 _ _ hpo), atI_nat (j := 0) rfl, pr, _, (i0 : Nat), .ref p, rfl, rfl, sq_tup hpr, atI_nat hu, p, _, 1, .ref qa, rfl, rfl, sq_tup hp, rfl, ?_⟩
        obtain ⟨pb, bs, rfl, hpb, alb⟩ := (bv.same (s2.trans s3))
        have lb := alb.len
        refine ⟨_, rfl, _, rfl, qa, pb, _, _, rfl, .inr ⟨sq_tup hqa, sq_tup hpb, fun D nD => ?_⟩⟩
        have k0 : Same H (upd H3 D (.lst [])) := (s2.trans s3).trans (same_upd nD)
        refine lc_zipM (K := K) (a := qa) (b := pb) (xs := (rowAt rs i0).am.map V.int) (ys := bs) box.length (by rw [List.length_map, lr, lb, Nat.min_self])
          (fun i H' => H' D = some (tL ((((rowAt rs i0).am.zip box).take i).map cor)) ∧ Same H3 H') ⟨upd_same, same_upd nD⟩ (fun i H' h => ⟨sq_tup (h.2 _ _ hqa), sq_tup (h.2 _ _ hpb)⟩) ?_ ?_
        · rintro i c y T' H4 hc hy ⟨hD, sm⟩ nT
          obtain ⟨c, hc', rfl⟩ := at_map hc
          obtain ⟨q, hq, pq, rfl, hpq⟩ := alb.at_ hy
          have li : i < box.length := (List.getElem?_eq_some_iff.mp hq).1
          have sT := same_at (o := .tup [.int c, .ref pq]) sm (sm.free nT)
          have DT : D ≠ T' := ne_of_none hD nT
          have fin1 : ∀ e : Int, e = cor (c, q) → upd (upd H4 T' (.tup [.int c, .ref pq])) D (.lst (((((rowAt rs i0).am.zip box).take i).map cor).map V.int ++ [V.int e])) D = some (tL ((((rowAt rs i0).am.zip box).take (i + 1)).map cor)) := fun e he => by
            rw [upd_same, take_one (zip_at hc' hq), List.map_append, he]
            unfold tL
            rw [List.map_append]; rfl
          have ln : (((((rowAt rs i0).am.zip box).take i).map cor).map V.int).length < sizeLine := small1000 (by rw [List.length_map, List.length_map, List.length_take]; omega)
          refine ⟨T', _, rfl, sq_tup upd_same, rfl, _, _, rfl, _, _, rfl, pq, _, rfl, sq_tup (sT _ _ hpq), rfl, _, _, rfl, _, _, rfl, rfl, rfl, rfl, ?_⟩
          refine ⟨_, rfl, _, _, rfl, rfl, _, rfl, ite2 (fun h0 => ?_) (fun h0 => ?_)⟩
          · exact ⟨_, rfl, _, (by rw [upd_ne DT]; exact hD), ln, fin1 _ (by unfold cor; rw [if_pos (of_decide_eq_true h0)]), same_at sT nD⟩
          · exact ⟨_, rfl, _, (by rw [upd_ne DT]; exact hD), ln, fin1 _ (by unfold cor; rw [if_neg (fun z => h0 (decide_eq_true z))]), same_at sT nD⟩
        · rintro H4 ⟨hD, sm⟩
          rw [List.take_of_length_le (by rw [List.length_zip]; omega)] at hD
          refine ⟨D, _, rfl, .inl ⟨sq_lst hD, fun l nl => fin _ _ ((s2.trans s3).trans (sm.trans (same_upd nl))) ?_⟩⟩
          have e : dueR rs box = rowAt rs i0 :: it.map (rowAt rs) := by unfold dueR; rw [hd]; rfl
          unfold PtV
          rw [e]
          exact ⟨l, rfl, upd_same⟩
    · exact ⟨_, rfl, _, rfl, _, rfl, tv, x, b, ul, wl, goal, box, rfl, tk0, lw, .inr ⟨odd, fin⟩⟩
abbrev s_sure_sum : Stmt := topS 41
abbrev n_sure_sum : List Str := ["task", "number", "box", "at", "_", "coefficients", "bound", "opposite", "times"]
theorem sc_sure_sum : FnScope n_sure_sum ["task", "number", "box"] (defScope s_sure_sum) := ⟨rfl, rfl, rfl, by decide +kernel, rfl, by decide +kernel, by decide +kernel⟩
def spSure (C CR : Addr) : Sp := fun vs H Q E => ∃ (tv x b : V) (ul : List Unk) (wl : List Wish) (goal : List Int) (box : List Fr), vs = [tv, x, b] ∧ TaskV C H tv ul wl goal ∧ wl.length ≤ 100 ∧
  ((∃ (k : Nat) (rs : List Row), x = .int k ∧ wl[k]? = some (.either rs) ∧ SV H b box ∧ box.length ≤ 100 ∧ RsOk rs box.length ∧ ∀ H', Same H H' → Q (firstV ((List.range rs.length).filter (sureP rs box))) H') ∨ (Odd H wl x ∧ ∀ d H2, Same H H2 → H2 d = some (.xd [("word", .str "wish")]) → E (.ref CR) (some d) H2))
theorem ok_sure_sum {f C CR : Addr} {fd : FuncData} (F : Fun K "sure_sum" "sure_sum" s_sure_sum f fd) (T : Txt K mg w aW aT es nn) (x_sums_of : CalX P w K mg base 4 "_sums_of" (spSums C CR)) (c_top_of : Cal P w K mg base 1 "top_of" spTop []) : FnOk P w K mg base (L2.CX P w) 6 f fd ["task", "number", "box"] (spSure C CR) := by
  refine F.okX sc_sure_sum (fun vs H Q E h => ?_) (fun cdv A outer s H vs Q E hr h => ?_)
  · obtain ⟨tv, x, b, ul, wl, goal, box, rfl, _⟩ := h
    rfl
  · obtain ⟨tv, x, b, ul, wl, goal, box, rfl, tk0, lw, h⟩ := h
    refine ⟨_, (pss_cons (ps_for (passes_of rfl) rfl (pi_enT (by rfl) T.b_enumerate (pa_cons (pe_xE (E := E) (passes_call (takes_of rfl rfl rfl rfl) fun _ _ _ _ z => z) x_sums_of hr (by decide) (by rfl) (pa_cons (pv 0) (pa_cons (pv 1) pa_nil))) pa_nil)) (pg_tup rfl (pgs_cons (pg_name (i := 3) sc_sure_sum.nd rfl (.inl rfl)) (pgs_cons (pg_tup rfl (pgs_cons (pg_name (i := 4) sc_sure_sum.nd rfl (.inl rfl)) (pgs_cons (pg_name (i := 5) sc_sure_sum.nd rfl (.inl rfl)) (pgs_cons (pg_name (i := 4) sc_sure_sum.nd rfl (.inl rfl)) (pgs_cons (pg_name (i := 6) sc_sure_sum.nd rfl (.inl rfl)) pgs_nil))))) pgs_nil))) (pss_cons (ps_set (i := 7) sc_sure_sum.nd rfl (.inl rfl) (pe_tup (pa_cons pe_str (pa_cons (pe_callTy call_tuple_of (by rfl) T.b_tuple (by decide +kernel) (pa_cons (pe_lc (own := [("times", 8)]) rfl sc_sure_sum.nd (pi_tup (pv 5)) (blkOk_by (N := n_sure_sum) (sc := defScope s_sure_sum) (by decide +kernel)) (fun _ _ _ _ _ => (pg_name (i := 8) sc_sure_sum.nd rfl (.inl rfl))) (fun _ _ _ _ _ => pts_nil) (fun _ _ _ _ _ => (pe_un un_neg (pv 8)))) pa_nil)) (pa_cons pe_bl (pa_cons (pe_un un_neg (pv 6)) pa_nil))))))
        (pss_one (ps_if (pt_cmpR op_ge (pe_un un_neg (pe_c c_top_of hr (by decide) (by rfl) (pa_cons (pv 7) (pa_cons (pv 2) pa_nil)))) (pv 6) (nomark _)) (pss_one (ps_ret (pv 3))) pss_nil))))
      (pss_one (ps_ret pe_non))), ?_⟩
    rcases h with ⟨k, rs, rfl, hk, bv, b100, ok, fin⟩ | ⟨odd, fin⟩
    · refine ⟨_, rfl, _, rfl, tv, _, ul, wl, goal, rfl, tk0, lw, .inl ⟨k, rs, rfl, hk, fun H1 v s1 rv => ?_⟩⟩
      obtain ⟨pr, us, rfl, hpr, al⟩ := rv
      have lu := al.len
      have bv1 := bv.same s1
      have l6 := ok.1
      refine ⟨pr, us, rfl, sq_tup hpr, for_enT (K := K) (a := pr) (xs := us) (fun i σ H' => ∃ (y3 y4 y5 y6 y7 : Option V), σ = [some tv, some (.int (k : Nat)), some b, y3, y4, y5, y6, y7, none] ∧ Same H1 H' ∧ (List.range i).filter (sureP rs box) = [])
        ⟨none, none, none, none, none, rfl, Same.refl _, rfl⟩ (fun i σ H' h => ?_) (fun i x T' σ H' hx h nT => ?_) (fun σ H' h => ?_)⟩
      · obtain ⟨_, _, _, _, _, _, s, _⟩ := h
        exact sq_tup (s _ _ hpr)
      · obtain ⟨y3, y4, y5, y6, y7, rfl, s2, none_⟩ := h
        obtain ⟨r, hr', rv⟩ := al.at_ hx
        obtain ⟨lr, ar⟩ := ok.2 r (List.mem_of_getElem? hr')
        obtain ⟨p, qa, rfl, hp, hqa⟩ := rv
        have li := (List.getElem?_eq_some_iff.mp hr').1
        have sT := same_at (o := .tup [.int (i : Nat), .ref p]) s2 (s2.free nT)
        have hqT := sT _ _ hqa
        have hpT := sT _ _ hp
        have hT : upd H' T' (.tup [.int (i : Nat), .ref p]) T' = some (.tup [.int (i : Nat), .ref p]) := upd_same
        generalize upd H' T' (.tup [.int (i : Nat), .ref p]) = HT at *
        refine ⟨T', _, rfl, sq_tup hT, rfl, _, _, rfl, _, _, rfl, p, _, rfl, sq_tup hpT, rfl, _, _, rfl, _, _, rfl, _, _, rfl, _, _, rfl, rfl, rfl, ?_⟩
        refine ⟨_, rfl, qa, rfl, ⟨_, sq_tup hqT⟩, fun D nD => ?_⟩
        refine lc_tup (K := K) (a := qa) (xs := r.am.map V.int) (fun i H' => H' D = some (tL ((r.am.take i).map (- ·))) ∧ Same HT H') ⟨upd_same, same_upd nD⟩ (fun i H' _ h => sq_tup (h.2 _ _ hqT)) ?_ ?_
        · rintro j x2 H3 hx2 ⟨hD, sm⟩
          obtain ⟨c, hc, rfl⟩ := at_map hx2
          have lj : j < r.am.length := (List.getElem?_eq_some_iff.mp hc).1
          refine ⟨rfl, _, rfl, _, rfl, _, hD, small1000 (by rw [List.length_map, List.length_map, List.length_take]; omega), ?_, same_at sm nD⟩
          rw [upd_same, take_one hc, List.map_append]
          unfold tL
          rw [List.map_append]; rfl
        · rintro H3 ⟨hD, sm⟩
          rw [List.length_map, List.take_length] at hD
          refine ⟨D, _, rfl, .inl ⟨sq_lst hD, fun l nl => ?_⟩⟩
          have sl := same_upd (o := .tup ((r.am.map (- ·)).map V.int)) nl
          have hl : upd H3 l (.tup ((r.am.map (- ·)).map V.int)) l = some (tI (r.am.map (- ·))) := upd_same
          have s5 := sm.trans sl
          generalize upd H3 l (.tup ((r.am.map (- ·)).map V.int)) = H5 at *
          refine ⟨_, rfl, _, rfl, len4, fun po npo => ?_⟩
          have so := same_upd (o := .tup [.str "sum", .ref l, .bl false, .int (-r.bd)]) npo
          have ho : upd H5 po (.tup [.str "sum", .ref l, .bl false, .int (-r.bd)]) po = some (.tup [.str "sum", .ref l, .bl false, .int (-r.bd)]) := upd_same
          have s16 := (sT.trans s5).trans so
          have hl6 := so _ _ hl
          generalize upd H5 po (.tup [.str "sum", .ref l, .bl false, .int (-r.bd)]) = H6 at *
          refine ⟨_, rfl, _, rfl, .ref po, b, negR r, box, rfl, ⟨po, l, rfl, ho, hl6⟩, bv1.same s16, ?_, ?_, fun H7 s7 => ?_⟩
          · show (r.am.map (- ·)).length = _
            rw [List.length_map, lr]
          · intro c hc
            obtain ⟨d, hd, rfl⟩ := List.mem_map.mp hc
            have := ar d hd
            omega
          · have s17 := s16.trans s7
            have es : sureP rs box i = decide (r.bd ≤ -topF (negR r).am box) := by unfold sureP; rw [rowAt_of hr']
            refine ⟨_, rfl, _, rfl, _, _, rfl, rfl, _, rfl, ite2 (fun c => ?_) (fun c => ?_)⟩
            · obtain ⟨t, et⟩ := first_of none_ li (by rw [es]; exact c)
              have := fin H7 (s1.trans s17)
              rw [et] at this
              exact ⟨_, rfl, this⟩
            · refine ⟨_, _, _, _, _, rfl, s17, ?_⟩
              rw [filter_range_succ, none_, es, if_neg c]; rfl
      · obtain ⟨y3, y4, y5, y6, y7, rfl, s2, none_⟩ := h
        rw [lu] at none_
        have := fin _ (s1.trans s2)
        rw [none_] at this
        exact this
    · exact ⟨_, rfl, _, rfl, tv, x, ul, wl, goal, rfl, tk0, lw, .inr ⟨odd, fin⟩⟩
end
end M66

namespace M66
open PySem PySem.Spec PyProof.Rows L2 SX Own Gd
open C8 (Cal pe_c pe_gc pe_mk Mak pss_cut)
theorem SV.fresh {H : Hp} {us : List V} {st : List Fr} {D : Addr} {xs : List V} {o : HO} (a : All2 (FV H) us st) (hD : H D = some (.lst xs)) : All2 (FV (upd H D o)) us st := a.mono fun v f g => g.tk (TK.put hD)
section
variable {P : Program} {w : World} {K : PySem.W.Frag} {mg : Str → Option Value} {base : Heap} {aW aT : Addr} {es : Array DictEntry} {nn : Nat}
abbrev s_sum_box : Stmt := topS 43
abbrev n_sum_box : List Str := ["item", "box", "spare", "pairs", "times", "low", "high"]
theorem sc_sum_box : FnScope n_sum_box ["item", "box"] (defScope s_sum_box) := ⟨rfl, rfl, rfl, by decide +kernel, rfl, by decide +kernel, by decide +kernel⟩
def spSumBox : Sp := fun vs H Q _ => ∃ (v b : V) (r : Row) (box : List Fr), vs = [v, b] ∧ RV H v r ∧ SV H b box ∧ box.length ≤ 100 ∧ r.am.length = box.length ∧ Am r ∧ ∀ H' v', Same H H' → SV H' v' (sumBox r box) → Q v' H'
theorem ok_sum_box {f : Addr} {fd : FuncData} (F : Fun K "_sum_box" "_sum_box" s_sum_box f fd) (T : Txt K mg w aW aT es nn) (c_top_of : Cal P w K mg base 1 "top_of" spTop []) : FnOk P w K mg base CX0 2 f fd ["item", "box"] spSumBox := by
  refine F.ok sc_sum_box (fun vs H Q E h => ?_) (fun cdv A outer s H vs Q E hr h => ?_)
  · obtain ⟨v, b, r, box, rfl, _⟩ := h
    rfl
  · obtain ⟨v, b, r, box, rfl, rv0, bv0, b100, lr, ar, q⟩ := h
    refine ⟨_, (pss_cons (ps_set (i := 2) sc_sum_box.nd rfl (.inl rfl) (pe_op op_sub (pe_c c_top_of hr (by decide) (by rfl) (pa_cons (pv 0) (pa_cons (pv 1) pa_nil))) (pe_ix ix_tup (pv 0) pe_int (fun _ _ => rfl))))
      (pss_cons (ps_set (i := 3) sc_sum_box.nd rfl (.inl rfl) (pe_lst pa_nil))
      (pss_cons (ps_for PassesOwn.never rfl (RZ.pi_zipA (by rfl) T.b_zip (pa_cons (pe_ix ix_tup (pv 0) pe_int (fun _ _ => rfl)) (pa_cons (pv 1) pa_nil))) (pg_tup rfl (pgs_cons (pg_name (i := 4) sc_sum_box.nd rfl (.inl rfl)) (pgs_cons (pg_tup rfl (pgs_cons (pg_name (i := 5) sc_sum_box.nd rfl (.inl rfl)) (pgs_cons (pg_name (i := 6) sc_sum_box.nd rfl (.inl rfl)) pgs_nil))) pgs_nil))) (pss_cut (ps_if (pt_cmpR op_gt (pv 4) pe_int (nomark _)) (pss_one (ps_set (i := 5) sc_sum_box.nd rfl (.inl rfl) (pe_callB (call_max2 rfl) (by rfl) T.b_max (by decide +kernel) (pa_cons (pv 5) (pa_cons (pe_op op_sub (pv 6) (pe_op op_fdiv (pv 2) (pv 4))) pa_nil))))) (pss_one (ps_if (pt_cmpR op_lt (pv 4) pe_int (nomark _)) (pss_one (ps_set (i := 6) sc_sum_box.nd rfl (.inl rfl) (pe_callB (call_min2 rfl) (by rfl) T.b_min (by decide +kernel) (pa_cons (pv 6) (pa_cons (pe_op op_add (pv 5) (pe_op op_fdiv (pv 2) (pe_un un_neg (pv 4)))) pa_nil))))) pss_nil)))
        (pss_one (ps_expr (pe_bm PySem.F.plainAttrs_list PySem.F.slot_list_append PySem.F.type_list_append mt_append (pv 3) (pa_cons (pe_tup (pa_cons (pv 5) (pa_cons (pv 6) pa_nil))) pa_nil))))))
      (pss_one (ps_ret (pe_callTy call_tuple_of (by rfl) T.b_tuple (by decide +kernel) (pa_cons (pv 3) pa_nil))))))), ?_⟩
    refine ⟨_, rfl, _, rfl, v, b, r, box, rfl, rv0, bv0, lr, ar, fun H1 s1 => ?_⟩
    obtain ⟨p, qa, rfl, hp, hqa⟩ := rv0.same s1
    obtain ⟨pb, bs, rfl, hpb, alb⟩ := bv0.same s1
    have lb := alb.len
    refine ⟨_, rfl, p, _, 3, .int r.bd, rfl, rfl, sq_tup hp, rfl, _, _, rfl, rfl, ?_⟩
    obtain ⟨sp, hsp⟩ : ∃ sp, sp = topF r.am box - r.bd := ⟨_, rfl⟩
    rw [show (fun i j => V.int (i - j)) (topF r.am box) r.bd = V.int sp from congrArg V.int hsp.symm]
    refine ⟨nil_ok, fun L nL => ?_⟩
    have k1 := same_upd (o := .lst []) nL
    have eL : upd H1 L (.lst []) L = some (.lst []) := upd_same
    generalize upd H1 L (.lst []) = H2 at *
    have hp2 := k1 _ _ hp
    have hqa2 := k1 _ _ hqa
    have hpb2 := k1 _ _ hpb
    refine ⟨_, rfl, p, _, 1, _, rfl, rfl, sq_tup hp2, rfl, _, rfl, qa, pb, _, _, rfl, .inr ⟨sq_tup hqa2, sq_tup hpb2, RZ.for_zipT (K := K) (a := qa) (b := pb) (xs := r.am.map V.int) (ys := bs) (by rw [List.length_map]; omega)
      (fun i σ H' => ∃ (us : List V) (y4 y5 y6 : Option V), σ = [some (.ref p), some (.ref pb), some (.int sp), some (.ref L), y4, y5, y6] ∧ H' L = some (.lst us) ∧ All2 (FV H') us (((r.am.zip box).take i).map (spF sp)) ∧ Same H1 H')
      ⟨[], none, none, none, rfl, eL, .nil, k1⟩ (fun i σ H' h => ?_) (fun i c y T σ H' hc hy h nT => ?_) (fun σ H' h => ?_)⟩⟩
    · obtain ⟨us, y4, y5, y6, rfl, eL', al, sm⟩ := h
      exact ⟨sq_tup (sm _ _ hqa), sq_tup (sm _ _ hpb)⟩
    · obtain ⟨us, y4, y5, y6, rfl, eL', al, sm⟩ := h
      obtain ⟨c, hc', rfl⟩ := at_map hc
      obtain ⟨pr, hpr, pp, rfl, hpp⟩ := alb.at_ hy
      have kT := same_upd (o := .tup [.int c, .ref pp]) nT
      have hT : upd H' T (.tup [.int c, .ref pp]) T = some (.tup [.int c, .ref pp]) := upd_same
      have sT := sm.trans kT
      have eLT := kT _ _ eL'
      have alT := al.mono fun v f g => FV.same g kT
      have hppT := sT _ _ hpp
      generalize upd H' T (.tup [.int c, .ref pp]) = HT at *
      have sc := am_at ar hc'
      have la := al.len
      rw [List.length_map, List.length_take] at la
      have li : i < box.length := (List.getElem?_eq_some_iff.mp hpr).1
      refine ⟨T, _, rfl, sq_tup hT, rfl, _, _, rfl, _, _, rfl, pp, _, rfl, sq_tup hppT, rfl, _, _, rfl, _, _, rfl, rfl, rfl, ?_⟩
      refine ⟨fun σ H' => ∃ e : Fr, e = spF sp (c, pr) ∧ σ = [some (.ref p), some (.ref pb), some (.int sp), some (.ref L), some (.int c), some (.int e.1), some (.int e.2)] ∧ H' = HT, ?_, fun σ H3 hM => ?_⟩
      · refine ⟨_, rfl, _, _, rfl, rfl, _, rfl, ite2 (fun h0 => ?_) (fun h0 => ?_)⟩
        · have h0 : 0 < c := of_decide_eq_true h0
          refine ⟨_, rfl, _, rfl, _, rfl, _, rfl, _, _, rfl, rfl, ⟨h0, by omega⟩, _, _, rfl, rfl, _, _, rfl, ?_⟩
          refine ⟨(if pr.2 - sp / c > pr.1 then pr.2 - sp / c else pr.1, pr.2), ?_, rfl, rfl⟩
          unfold spF
          rw [if_pos h0]
        · have h0 : ¬ 0 < c := fun z => h0 (decide_eq_true z)
          refine ⟨_, rfl, _, _, rfl, rfl, _, rfl, ite2 (fun h1 => ?_) (fun h1 => ?_)⟩
          · have h1 : c < 0 := of_decide_eq_true h1
            refine ⟨_, rfl, _, rfl, _, rfl, _, rfl, _, rfl, _, _, rfl, rfl, ⟨by omega, by omega⟩, _, _, rfl, rfl, _, _, rfl, ?_⟩
            refine ⟨(pr.1, if pr.1 + sp / -c < pr.2 then pr.1 + sp / -c else pr.2), ?_, rfl, rfl⟩
            unfold spF
            rw [if_neg h0, if_pos h1]
          · have h1 : ¬ c < 0 := fun z => h1 (decide_eq_true z)
            refine ⟨pr, ?_, rfl, rfl⟩
            unfold spF
            rw [if_neg h0, if_neg h1]
      · obtain ⟨e, he, rfl, rfl⟩ := hM
        refine ⟨_, rfl, .inl ⟨rfl, _, sq_lst eLT⟩, _, rfl, _, rfl, len2, fun pn npn => ?_⟩
        have kn := same_upd (o := .tup [.int e.1, .int e.2]) npn
        have hn : upd H3 pn (.tup [.int e.1, .int e.2]) pn = some (.tup [.int e.1, .int e.2]) := upd_same
        have eLn := kn _ _ eLT
        have aln := alT.mono fun v f g => FV.same g kn
        have sn := sT.trans kn
        generalize upd H3 pn (.tup [.int e.1, .int e.2]) = H4 at *
        refine ⟨L, _, _, rfl, rfl, eLn, small1000 (by omega), us ++ [.ref pn], _, _, _, rfl, upd_same, ?_, same_at sn nL⟩
        rw [take_one (zip_at hc' hpr), List.map_append]
        exact (SV.fresh aln eLn).app ⟨pn, rfl, by rw [← he]; exact TK.put eLn _ _ hn⟩
    · obtain ⟨us, y4, y5, y6, rfl, eL', al, sm⟩ := h
      rw [List.take_of_length_le (by rw [List.length_map, List.length_zip]; omega)] at al
      refine ⟨_, rfl, L, _, rfl, .inl ⟨sq_lst eL', fun l nl => ?_⟩⟩
      have kl := same_upd (o := .tup us) nl
      refine q _ (.ref l) (s1.trans (sm.trans kl)) ⟨l, us, rfl, upd_same, ?_⟩
      have e : sumBox r box = (r.am.zip box).map (spF sp) := by unfold sumBox; rw [hsp]
      rw [e]
      exact al.mono fun v f g => FV.same g kl
end
end M66

namespace M66
open PySem PySem.Spec PyProof.Rows L2 SX Own Gd
open C8 (Cal pe_c pe_gc pe_mk Mak pss_cut)
/-! ### the least box of an either, place by place -/
theorem due_iff {rs : List Row} {box : List Fr} {r : Row} : r ∈ dueR rs box ↔ ∃ i : Nat, rs[i]? = some r ∧ r.bd ≤ topF r.am box := by
  unfold dueR opn
  constructor
  · intro h
    obtain ⟨i, hi, rfl⟩ := List.mem_map.mp h
    obtain ⟨h1, h2⟩ := List.mem_filter.mp hi
    exact ⟨i, row_get (List.mem_range.mp h1), of_decide_eq_true h2⟩
  · rintro ⟨i, hi, h⟩
    have e := rowAt_of hi
    refine List.mem_map.mpr ⟨i, List.mem_filter.mpr ⟨List.mem_range.mpr (List.getElem?_eq_some_iff.mp hi).1, ?_⟩, e⟩
    unfold opP
    rw [e]
    exact decide_eq_true h
theorem ei_iff {rs : List Row} {box : List Fr} (ok : RsOk rs box.length) (hb : Bx box) : (∃ x, Ei box rs x) ↔ dueR rs box ≠ [] := by
  constructor
  · rintro ⟨x, r, hr, hk⟩ z
    obtain ⟨i, hi, e⟩ := List.getElem_of_mem hr
    have : r ∈ dueR rs box := due_iff.mpr ⟨i, by rw [List.getElem?_eq_getElem hi, e], (kp_some (ok.2 r hr).1 hb).mp ⟨x, hk⟩⟩
    rw [z] at this
    cases this
  · intro h
    obtain ⟨r, hr⟩ := List.exists_mem_of_ne_nil _ h
    obtain ⟨i, hi, e⟩ := due_iff.mp hr
    have mr := List.mem_of_getElem? hi
    obtain ⟨x, hx⟩ := (kp_some (ok.2 r mr).1 hb).mpr e
    exact ⟨x, r, mr, hx⟩
theorem sumBox_at {r : Row} {box : List Fr} {k : Nat} {p : Fr} (l : r.am.length = box.length) (e : box[k]? = some p) : ∃ c, r.am[k]? = some c ∧ (sumBox r box)[k]? = some (spF (topF r.am box - r.bd) (c, p)) := by
  have hk : k < r.am.length := by rw [l]; exact (List.getElem?_eq_some_iff.mp e).1
  refine ⟨r.am[k], List.getElem?_eq_getElem hk, ?_⟩
  unfold sumBox
  rw [List.getElem?_map, zip_at (List.getElem?_eq_getElem hk) e]; rfl
theorem sumBox_len {r : Row} {box : List Fr} (l : r.am.length = box.length) : (sumBox r box).length = box.length := by
  unfold sumBox
  rw [List.length_map, List.length_zip, l, Nat.min_self]
theorem lst_of {rs : List Row} {box B : List Fr} (ok : RsOk rs box.length) (hb : Bx box) (lB : B.length = box.length)
    (h : ∀ (k : Nat) p, B[k]? = some p → (∃ r ∈ dueR rs box, ((sumBox r box).getD k (0, 0)).1 = p.1) ∧ (∀ r ∈ dueR rs box, p.1 ≤ ((sumBox r box).getD k (0, 0)).1) ∧ (∃ r ∈ dueR rs box, ((sumBox r box).getD k (0, 0)).2 = p.2) ∧ (∀ r ∈ dueR rs box, ((sumBox r box).getD k (0, 0)).2 ≤ p.2)) : Lst (Ei box rs) box.length B := by
  have place : ∀ (k : Nat) r, k < box.length → r ∈ dueR rs box → ∃ c p, r ∈ rs ∧ r.am[k]? = some c ∧ box[k]? = some p ∧ (sumBox r box).getD k (0, 0) = spF (topF r.am box - r.bd) (c, p) ∧ 0 ≤ topF r.am box - r.bd := fun k r hk hr => by
    obtain ⟨i, hi, e⟩ := due_iff.mp hr
    have mr := List.mem_of_getElem? hi
    have ep : box[k]? = some box[k] := List.getElem?_eq_getElem hk
    obtain ⟨c, hc, hs⟩ := sumBox_at (ok.2 r mr).1 ep
    exact ⟨c, _, mr, hc, ep, by rw [List.getD_eq_getElem?_getD, hs]; rfl, by omega⟩
  have give : ∀ (k : Nat) r, k < box.length → r ∈ dueR rs box → (∃ x, Ei box rs x ∧ x[k]? = some ((sumBox r box).getD k (0, 0)).1) ∧ ∃ x, Ei box rs x ∧ x[k]? = some ((sumBox r box).getD k (0, 0)).2 := fun k r hk hr => by
    obtain ⟨c, p, mr, hc, hp, e, s0⟩ := place k r hk hr
    have pp := hb p (List.mem_of_getElem? hp)
    obtain ⟨h1, h2, h3⟩ := spF_sub (c := c) s0 pp
    rw [e]
    constructor
    · obtain ⟨x, hx, ex⟩ := (kp_at (ok.2 r mr).1 hb hc hp h1 (Int.le_trans h2 h3)).mpr ((spF_in s0 pp h1 (Int.le_trans h2 h3)).mp ⟨Int.le_refl _, h2⟩)
      exact ⟨x, ⟨r, mr, hx⟩, ex⟩
    · obtain ⟨x, hx, ex⟩ := (kp_at (ok.2 r mr).1 hb hc hp (Int.le_trans h1 h2) h3).mpr ((spF_in s0 pp (Int.le_trans h1 h2) h3).mp ⟨h2, Int.le_refl _⟩)
      exact ⟨x, ⟨r, mr, hx⟩, ex⟩
  refine ⟨lB, fun k p e => ?_, fun k p e x c hx ec => ?_⟩
  · have hk : k < box.length := by rw [← lB]; exact (List.getElem?_eq_some_iff.mp e).1
    obtain ⟨⟨r, hr, e1⟩, _, ⟨r', hr', e2⟩, _⟩ := h k p e
    rw [← e1, ← e2]
    exact ⟨(give k r hk hr).1, (give k r' hk hr').2⟩
  · have hk : k < box.length := by rw [← lB]; exact (List.getElem?_eq_some_iff.mp e).1
    obtain ⟨_, a1, _, a2⟩ := h k p e
    obtain ⟨r, mr, hkp⟩ := hx
    obtain ⟨i, hi, ei⟩ := List.getElem_of_mem mr
    have hr : r ∈ dueR rs box := due_iff.mpr ⟨i, by rw [List.getElem?_eq_getElem hi, ei], (kp_some (ok.2 r mr).1 hb).mp ⟨x, hkp⟩⟩
    obtain ⟨c', q, _, hc, hq, es, s0⟩ := place k r hk hr
    have b1 := a1 r hr
    have b2 := a2 r hr
    rw [es] at b1 b2
    have qq := hb q (List.mem_of_getElem? hq)
    have inq := hkp.1.at_ ec hq
    have := (spF_in s0 qq inq.1 inq.2).mpr ((kp_at (ok.2 r mr).1 hb hc hq inq.1 inq.2).mp ⟨x, hkp, ec⟩)
    omega
section
variable {P : Program} {w : World} {K : PySem.W.Frag} {mg : Str → Option Value} {base : Heap} {aW aT : Addr} {es : Array DictEntry} {nn : Nat}
abbrev s_either_box : Stmt := topS 42
abbrev n_either_box : List Str := ["task", "number", "box", "sums", "at", "boxes", "pairs", "inner"]
theorem sc_either_box : FnScope n_either_box ["task", "number", "box"] (defScope s_either_box) := ⟨rfl, rfl, rfl, by decide +kernel, rfl, by decide +kernel, by decide +kernel⟩
def spBox (C CR : Addr) : Sp := fun vs H Q E => ∃ (tv x b : V) (ul : List Unk) (wl : List Wish) (goal : List Int) (box : List Fr), vs = [tv, x, b] ∧ TaskV C H tv ul wl goal ∧ wl.length ≤ 100 ∧
  ((∃ (k : Nat) (rs : List Row), x = .int k ∧ wl[k]? = some (.either rs) ∧ SV H b box ∧ box.length ≤ 100 ∧ Bx box ∧ RsOk rs box.length ∧ ((¬ ∃ x, Ei box rs x) → ∀ H', Same H H' → Q .non H') ∧ ∀ H' v B, Same H H' → Lst (Ei box rs) box.length B → SV H' v B → Q v H') ∨ (Odd H wl x ∧ ∀ d H2, Same H H2 → H2 d = some (.xd [("word", .str "wish")]) → E (.ref CR) (some d) H2))
theorem ok_either_box {f C CR : Addr} {fd : FuncData} (F : Fun K "either_box" "either_box" s_either_box f fd) (T : Txt K mg w aW aT es nn) (x_sums_of : CalX P w K mg base 4 "_sums_of" (spSums C CR)) (x_open_sums : CalX P w K mg base 5 "open_sums" (spOpen C CR)) (c_sum_box : Cal P w K mg base 2 "_sum_box" spSumBox []) : FnOk P w K mg base (L2.CX P w) 6 f fd ["task", "number", "box"] (spBox C CR) := by
  refine F.okX sc_either_box (fun vs H Q E h => ?_) (fun cdv A outer s H vs Q E hr h => ?_)
  · obtain ⟨tv, x, b, ul, wl, goal, box, rfl, _⟩ := h
    rfl
  · obtain ⟨tv, x, b, ul, wl, goal, box, rfl, tk0, lw, h⟩ := h
    refine ⟨_, (pss_cons (ps_set (i := 3) sc_either_box.nd rfl (.inr rfl) (pe_xE (E := E) (passes_call (takes_of rfl rfl rfl rfl) fun _ _ _ _ z => z) x_sums_of hr (by decide) (by rfl) (pa_cons (pv 0) (pa_cons (pv 1) pa_nil))))
      (pss_cons (ps_setLc (i := 5) (own := [("at", 4)]) rfl sc_either_box.nd rfl rfl (sw_true rfl rfl rfl (by decide +kernel)) (pi_tup (pe_xE (E := E) (passes_call (takes_of rfl rfl rfl rfl) fun _ _ _ _ z => z) x_open_sums hr (by decide) (by rfl) (pa_cons (pv 0) (pa_cons (pv 1) (pa_cons (pv 2) pa_nil))))) (blkOk_by (N := n_either_box) (sc := defScope s_either_box) (by decide +kernel)) (fun _ _ _ _ _ => (pg_name (i := 4) sc_either_box.nd rfl (.inl rfl))) (fun _ _ _ _ _ => pts_nil) (fun _ _ _ _ _ => (pe_c c_sum_box hr (by decide) (by rfl) (pa_cons (pe_ix (r := rIxT K) ix_tup (pv 3) (pv 4) (fun _ _ => rfl)) (pa_cons (pv 2) pa_nil)))))
      (pss_cons (ps_if (pt_not (pt_truth (pv 5) (by intro _; rfl))) (pss_one (ps_ret pe_non)) pss_nil)
      (pss_cons (ps_set (i := 6) sc_either_box.nd rfl (.inl rfl) (pe_lst pa_nil))
      (pss_cons (ps_for (passes_of rfl) rfl (pi_range1 (by rfl) T.b_range (pa_cons (pe_callB call_len_seq (by rfl) T.b_len (by decide +kernel) (pa_cons (pv 2) pa_nil)) pa_nil)) (pg_name (i := 4) sc_either_box.nd rfl (.inr rfl)) (pss_one (ps_expr (pe_bm PySem.F.plainAttrs_list PySem.F.slot_list_append PySem.F.type_list_append mt_append (pv 6) (pa_cons (pe_tup (pa_cons (pe_callB (cr_min rfl) (by rfl) T.b_min (by decide +kernel) (pa_cons (pe_lc (own := [("inner", 7)]) rfl sc_either_box.nd (pi_list (pv 5)) (blkOk_by (N := n_either_box) (sc := defScope s_either_box) (by decide +kernel)) (fun _ _ _ _ _ => (pg_name (i := 7) sc_either_box.nd rfl (.inl rfl))) (fun _ _ _ _ _ => pts_nil) (fun _ _ _ _ _ => (pe_ix (r := rIxT K) ix_tup (pe_ix (r := rIxT K) ix_tup (pv 7) (pv 4) (fun _ _ => rfl)) pe_int (fun _ _ => rfl)))) pa_nil)) (pa_cons (pe_callB (cr_max rfl) (by rfl) T.b_max (by decide +kernel) (pa_cons (pe_lc (own := [("inner", 7)]) rfl sc_either_box.nd (pi_list (pv 5)) (blkOk_by (N := n_either_box) (sc := defScope s_either_box) (by decide +kernel)) (fun _ _ _ _ _ => (pg_name (i := 7) sc_either_box.nd rfl (.inl rfl))) (fun _ _ _ _ _ => pts_nil) (fun _ _ _ _ _ => (pe_ix (r := rIxT K) ix_tup (pe_ix (r := rIxT K) ix_tup (pv 7) (pv 4) (fun _ _ => rfl)) pe_int (fun _ _ => rfl)))) pa_nil)) pa_nil))) pa_nil)))))
      (pss_one (ps_ret (pe_callTy call_tuple_of (by rfl) T.b_tuple (by decide +kernel) (pa_cons (pv 6) pa_nil))))))))), ?_⟩
    rcases h with ⟨k, rs, rfl, hk, bv, b100, hb, ok, fin0, fin⟩ | ⟨odd, fin⟩
    · refine ⟨_, rfl, _, rfl, tv, _, ul, wl, goal, rfl, tk0, lw, .inl ⟨k, rs, rfl, hk, fun H1 v s1 rv => ?_⟩⟩
      obtain ⟨pr, us, rfl, hpr, al⟩ := rv
      have lu := al.len
      refine ⟨_, rfl, _, rfl, _, rfl, tv, _, b, ul, wl, goal, box, rfl, same_tv tk0 s1, lw, .inl ⟨k, rs, rfl, hk, bv.same s1, ok, fun H2 v2 s2 lv => ?_⟩⟩
      obtain ⟨po, rfl, hpo⟩ := lv
      have ol := opn_len (rs := rs) (box := box)
      have l6 := ok.1
      refine ⟨po, rfl, ⟨_, sq_tup hpo⟩, fun D nD => ?_⟩
      refine lc_tup (K := K) (a := po) (xs := (natI (opn rs box)).map V.int) (fun i H' => ∃ vs, H' D = some (.lst vs) ∧ All2 (fun v r => SV H' v (sumBox r box)) vs ((dueR rs box).take i) ∧ Same H2 H') ⟨[], upd_same, .nil, same_upd nD⟩ (fun i H' _ h => by obtain ⟨_, _, _, s⟩ := h; exact sq_tup (s _ _ hpo)) ?_ ?_
      · rintro i v H3 hv ⟨vs, hD, a3, s3⟩
        obtain ⟨j, hj, rfl⟩ := nat_at hv
        have lj := opn_lt (List.mem_of_getElem? hj)
        obtain ⟨u, hu, ru⟩ := al.at2 (row_get lj)
        obtain ⟨lr, ar⟩ := ok.2 _ (List.mem_of_getElem? (row_get lj))
        have s13 := s2.trans s3
        have la := a3.len
        rw [List.length_take] at la
        have li := (List.getElem?_eq_some_iff.mp hj).1
        refine ⟨rfl, _, rfl, _, rfl, pr, _, _, u, rfl, rfl, sq_tup (s13 _ _ hpr), atI_nat hu, _, rfl, u, b, rowAt rs j, box, rfl, ru.same s13, bv.same (s1.trans s13), b100, lr, ar, fun H4 v4 s4 bv4 => ?_⟩
        have D4 := s4 _ _ hD
        refine ⟨vs, D4, small1000 (by omega), vs ++ [v4], upd_same, ?_, same_at (s3.trans s4) nD⟩
        have e : (dueR rs box).take (i + 1) = (dueR rs box).take i ++ [rowAt rs j] := by
          refine take_one ?_
          unfold dueR
          rw [List.getElem?_map, hj]; rfl
        rw [e]
        exact (a3.mono fun v r g => (g.same s4).tk (TK.put D4)).app (bv4.tk (TK.put D4))
      · rintro H3 ⟨vs, hD, a3, s3⟩
        rw [natI_len] at a3
        have ld : (dueR rs box).length = (opn rs box).length := by unfold dueR; rw [List.length_map]
        rw [List.take_of_length_le (by omega)] at a3
        have la := a3.len
        have s13 := s1.trans (s2.trans s3)
        refine ⟨_, rfl, !vs.isEmpty, .inl ⟨vs, sq_lst hD, by cases vs <;> rfl⟩, ?_⟩
        match hd : dueR rs box, vs, a3, hD with
        | [], _, .nil, hD =>
          refine iteT ?_
          exact fin0 (fun z => (ei_iff ok hb).mp z hd) _ s13
        | r0 :: rt, v0 :: vt, a3, hD =>
          refine iteF ?_
          obtain ⟨pb, bs, rfl, hpb, alb⟩ := bv.same s13
          have lb := alb.len
          refine ⟨nil_ok, fun L nL => ?_⟩
          have kL := same_upd (o := .lst []) nL
          have DL : D ≠ L := ne_of_none hD nL
          have duel : ∀ r ∈ r0 :: rt, r.am.length = box.length := fun r hr => by
            rw [← hd] at hr
            obtain ⟨i, hi, _⟩ := due_iff.mp hr
            exact (ok.2 r (List.mem_of_getElem? hi)).1
          have ldue : (r0 :: rt).length ≤ 6 := by rw [← hd, ld]; omega
          refine ⟨_, rfl, pb, _, rfl, .inr (sq_tup (kL _ _ hpb)), _, rfl, by omega, by omega, for_range (lo := 0) (n := ((bs.length : Nat) : Int).toNat) (fun i σ H' => ∃ y4 ps B, σ = [some tv, some (.int (k : Nat)), some (.ref pb), some (.ref pr), y4, some (.ref D), some (.ref L), none] ∧ Same H3 H' ∧ H' L = some (.lst ps) ∧ All2 (FV H') ps B ∧ B.length = i ∧ ∀ (k : Nat) p, B[k]? = some p → (∃ r ∈ r0 :: rt, ((sumBox r box).getD k (0, 0)).1 = p.1) ∧ (∀ r ∈ r0 :: rt, p.1 ≤ ((sumBox r box).getD k (0, 0)).1) ∧ (∃ r ∈ r0 :: rt, ((sumBox r box).getD k (0, 0)).2 = p.2) ∧ (∀ r ∈ r0 :: rt, ((sumBox r box).getD k (0, 0)).2 ≤ p.2))
            ⟨_, [], [], rfl, kL, upd_same, .nil, rfl, fun k p e => by simp at e⟩ (fun i σ H4 hi hI => ?_) (fun σ H4 hI => ?_)⟩
          · obtain ⟨y4, ps, B, rfl, s4, eL, ap, lB, hB⟩ := hI
            rw [Int.toNat_natCast] at hi
            rw [show ((0 : Int) + (i : Nat)) = (i : Int) by omega]
            have lps := ap.len
            have inner : ∀ {H' : Hp} {j : Nat} {v : V}, Same H3 H' → (v0 :: vt)[j]? = some v → ∃ r pI us2 q, (r0 :: rt)[j]? = some r ∧ v = .ref pI ∧ H' pI = some (.tup us2) ∧ us2[i]? = some (.ref q) ∧ H' q = some (.tup [.int ((sumBox r box).getD i (0, 0)).1, .int ((sumBox r box).getD i (0, 0)).2]) := fun s hv => by
              obtain ⟨r, hr', sv⟩ := a3.at_ hv
              obtain ⟨pI, us2, rfl, hpI, ai⟩ := sv.same s
              have el : (sumBox r box)[i]? = some ((sumBox r box).getD i (0, 0)) := by
                rw [List.getD_eq_getElem?_getD, List.getElem?_eq_getElem (by rw [sumBox_len (duel r (List.mem_of_getElem? hr'))]; omega)]; rfl
              obtain ⟨u, hu, q, rfl, hq⟩ := ai.at2 el
              exact ⟨r, pI, us2, q, hr', rfl, hpI, hu, hq⟩
            refine ⟨_, rfl, .inl ⟨rfl, _, sq_lst eL⟩, _, rfl, D, rfl, ⟨_, sq_lst (s4 _ _ hD)⟩, fun M nM => ?_⟩
            refine lc_list (K := K) (a := D) (xs := v0 :: vt) (fun j H' => H' M = some (tL (((r0 :: rt).take j).map fun r => ((sumBox r box).getD i (0, 0)).1)) ∧ Same H4 H') ⟨upd_same, same_upd nM⟩ (fun j H' _ h => sq_lst (h.2 _ _ (s4 _ _ hD))) ?_ ?_
            · rintro j v H5 hv ⟨eM, s5⟩
              obtain ⟨r, pI, us2, q, hr', rfl, hpI, hu, hq⟩ := inner (s4.trans s5) hv
              have lj : j < (r0 :: rt).length := (List.getElem?_eq_some_iff.mp hr').1
              refine ⟨rfl, _, rfl, _, rfl, pI, _, (i : Int), .ref q, rfl, rfl, sq_tup hpI, atI_nat hu, q, _, 0, _, rfl, rfl, sq_tup hq, rfl, _, eM, small1000 (by rw [List.length_map, List.length_map, List.length_take]; omega), ?_, same_at s5 nM⟩
              rw [upd_same, take_one hr', List.map_append]
              unfold tL
              rw [List.map_append]; rfl
            · rintro H5 ⟨eM, s5⟩
              rw [la, hd, List.take_length] at eM
              refine ⟨M, _, rfl, sq_lst eM, by rw [List.length_map]; exact Nat.succ_pos _, fun m1 hm1 le1 => ?_⟩
              refine ⟨_, rfl, D, rfl, ⟨_, sq_lst (s5 _ _ (s4 _ _ hD))⟩, fun M2 nM2 => ?_⟩
              refine lc_list (K := K) (a := D) (xs := v0 :: vt) (fun j H' => H' M2 = some (tL (((r0 :: rt).take j).map fun r => ((sumBox r box).getD i (0, 0)).2)) ∧ Same H5 H') ⟨upd_same, same_upd nM2⟩ (fun j H' _ h => sq_lst (h.2 _ _ (s5 _ _ (s4 _ _ hD)))) ?_ ?_
              · rintro j v H6 hv ⟨eM2, s6⟩
                obtain ⟨r, pI, us2, q, hr', rfl, hpI, hu, hq⟩ := inner ((s4.trans s5).trans s6) hv
                have lj : j < (r0 :: rt).length := (List.getElem?_eq_some_iff.mp hr').1
                refine ⟨rfl, _, rfl, _, rfl, pI, _, (i : Int), .ref q, rfl, rfl, sq_tup hpI, atI_nat hu, q, _, 1, _, rfl, rfl, sq_tup hq, rfl, _, eM2, small1000 (by rw [List.length_map, List.length_map, List.length_take]; omega), ?_, same_at s6 nM2⟩
                rw [upd_same, take_one hr', List.map_append]
                unfold tL
                rw [List.map_append]; rfl
              · rintro H6 ⟨eM2, s6⟩
                rw [la, hd, List.take_length] at eM2
                refine ⟨M2, _, rfl, sq_lst eM2, by rw [List.length_map]; exact Nat.succ_pos _, fun m2 hm2 le2 => ?_⟩
                refine ⟨len2, fun pn npn => ?_⟩
                have s46 := s5.trans s6
                have kn := same_upd (o := .tup [.int m1, .int m2]) npn
                have hn : upd H6 pn (.tup [.int m1, .int m2]) pn = some (.tup [.int m1, .int m2]) := upd_same
                have s47 := s46.trans kn
                generalize upd H6 pn (.tup [.int m1, .int m2]) = H7 at *
                have eL7 := s47 _ _ eL
                refine ⟨L, _, _, rfl, rfl, eL7, small1000 (by omega), _, ps ++ [.ref pn], B ++ [(m1, m2)], rfl, same_at (s4.trans s47) nL, upd_same, ?_, by rw [List.length_append, lB]; rfl, fun k p e => ?_⟩
                · exact (SV.fresh (ap.mono fun v f g => g.tk (.of s47)) eL7).app ⟨pn, rfl, TK.put eL7 _ _ hn⟩
                · by_cases c : k < B.length
                  · rw [List.getElem?_append_left c] at e
                    exact hB k p e
                  · rw [List.getElem?_append_right (by omega)] at e
                    have hk1 : k - B.length < 1 := (List.getElem?_eq_some_iff.mp e).1
                    have ek : k = i := by omega
                    subst ek
                    rw [lB, Nat.sub_self] at e
                    cases e
                    obtain ⟨r1, hr1, e1⟩ := List.mem_map.mp hm1
                    obtain ⟨r2, hr2, e2⟩ := List.mem_map.mp hm2
                    exact ⟨⟨r1, hr1, e1⟩, fun r hr' => le1 _ (List.mem_map.mpr ⟨r, hr', rfl⟩), ⟨r2, hr2, e2⟩, fun r hr' => le2 _ (List.mem_map.mpr ⟨r, hr', rfl⟩)⟩
          · obtain ⟨y4, ps, B, rfl, s4, eL, ap, lB, hB⟩ := hI
            rw [Int.toNat_natCast, lb] at lB
            refine ⟨_, rfl, L, _, rfl, .inl ⟨sq_lst eL, fun l nl => ?_⟩⟩
            have kl := same_upd (o := .tup ps) nl
            refine fin _ (.ref l) B (s13.trans (s4.trans kl)) (lst_of ok hb lB (by rw [hd]; exact hB)) ⟨l, ps, rfl, upd_same, ap.mono fun v f g => g.same kl⟩
    · exact ⟨_, rfl, _, rfl, tv, x, ul, wl, goal, rfl, tk0, lw, .inr ⟨odd, fin⟩⟩
end
end M66

/-! a loop over enumerate(zip(a, b)) of two tuples: each item is a new pair of the place and a new pair of the two values. -/
namespace EZ
open PySem PySem.Spec PyProof.Rows L2 RZ Gd
open PySem.Sem (wp)
section
variable {prog : Program} {w : World} {A : Around} {E : Value → Shared → Prop} {s : Shared}
theorem alive_none {a : Addr} {Q : Option Obj → Shared → Prop} (ho : s.heap.get? a = none) (h : Q none s) : wpAny (model prog w) A (loadIfAlive a) Q E s := by
  have h' : Q (s.heap.get? a) s := by rw [ho]; exact h
  exact fun _ _ _ => h'
/-- a zip, whatever it gave out before -/
abbrev IsZ (h : Heap) (z TI TO : Addr) (v : Value) (f : Bool) : Prop :=
  h.get? z = some { cls := .type "zip", dict := none, data := .fields #[v, .bool f, .bool false, .ref TI, .ref TO], slots := #[] }
def Out (v : Value) : Prop := v = .none ∨ ∃ T : Addr, v = rawInt T
/-- the tuple of the zip is free, or it is held and the zip knows it -/
theorem is_free {z TI TO : Addr} {v : Value} {f : Bool} {Q : Bool → Shared → Prop} (hz : IsZ s.heap z TI TO v f) (ov : Out v)
    (h1 : Q true s) (h2 : ∀ h', IsZ h' z TI TO v true → Heap.SameBut z s.heap h' → Q false { s with heap := h' }) : wpAny (model prog w) A (Builtin.SmallTypes.ownedTupleIsFree (.ref z)) Q E s := by
  unfold Builtin.SmallTypes.ownedTupleIsFree
  refine wpAny_bind (wpAny_field hz rfl (x := v) rfl ?_)
  rcases ov with rfl | ⟨T, rfl⟩
  · exact wpAny_pure h1
  · show wpAny _ _ (loadIfAlive ((T : Int).toNat) >>= _) _ _ _
    rw [Int.toNat_natCast]
    cases hT : s.heap.get? T with
    | none =>
      refine wpAny_bind (alive_none hT ?_)
      simp only [Option.isNone_none, if_true]
      exact wpAny_pure h1
    | some oT =>
      refine wpAny_bind (PySem.W.kdx_alive hT ?_)
      simp only [Option.isNone_some, Bool.false_eq_true, if_false]
      refine wpAny_bind (wpAny_field hz rfl (x := .bool f) rfl ?_)
      cases f with
      | true =>
        rw [if_neg (show ¬ ((Value.bool true != Value.bool true) = true) from Bool.false_ne_true)]
        exact wpAny_pure (h2 s.heap hz (Heap.SameBut.refl _ _))
      | false =>
        rw [if_pos (show (Value.bool false != Value.bool true) = true from rfl)]
        exact wpAny_bind (wpAny_setField_rec hz (by simp) fun h₁ hz₁ hs₁ => wpAny_pure (h2 h₁ hz₁ hs₁))
/-- the state of a zip over two tuples -/
structure ZT (a b z TI TO i1 i2 : Addr) (i : Nat) (h : Heap) : Prop where
  hz : ∃ v f, IsZ h z TI TO v f ∧ Out v
  hTI : IsPair h TI (.ref i1) (.ref i2)
  hTO : ∃ x y, IsPair h TO x y
  h1 : h.IsTupleIter i1 a i
  h2 : h.IsTupleIter i2 b i
/-! steps of my own: a field read, a tuple's next, each ahead of what follows -/
theorem rd {α : Type} {a : Addr} {o : Obj} {fs : Array Value} {j : Nat} {x : Value} {f : Value → Sem α} {Q : α → Shared → Prop} (e : s.heap.get? a = some o) (d : o.data = .fields fs) (c : fs[j]? = some x) (k : wpAny (model prog w) A (f x) Q E s) :
    wpAny (model prog w) A (field (.ref a) j >>= f) Q E s := wpAny_bind (wpAny_field e d c k)
theorem nx {α : Type} {it l : Addr} {i : Nat} {items : Array Value} {x : Value} {f : Value → Sem α} {Q : α → Shared → Prop} (t : s.heap.IsTupleIter it l i) (tl : s.heap.IsTuple l items) (c : items[i]? = some x)
    (k : ∀ g, g.IsTupleIter it l (i + 1) → Heap.SameBut it s.heap g → wpAny (model prog w) A (f x) Q E { s with heap := g }) : wpAny (model prog w) A (Builtin.SmallTypes.nextOf (.ref it) >>= f) Q E s := wpAny_bind (nextOf_tuple_item t tl c k)
theorem nxe {α : Type} {it l : Addr} {i : Nat} {items : Array Value} {f : Value → Sem α} {Q : α → Shared → Prop} (hh : A.handled = none) (t : s.heap.IsTupleIter it l i) (tl : s.heap.IsTuple l items) (c : items[i]? = none)
    (k : ∀ g e, Heap.ExtBut it s.heap g → (∃ o, g.get? e = some o ∧ o.cls = .type "StopIteration") → E (.ref e) { s with heap := g }) : wpAny (model prog w) A (Builtin.SmallTypes.nextOf (.ref it) >>= f) Q E s := wpAny_bind (nextOf_tuple_end hh t tl c k)
theorem next_item {z TI TO i1 i2 l1 l2 : Addr} {k : Nat} {xs ys : Array Value} {x y : Value} {Q : Value → Shared → Prop} (D : ZipApart z TI TO i1 i2 l1 l2)
    (Z : ZT l1 l2 z TI TO i1 i2 k s.heap) (m1 : s.heap.IsTuple l1 xs) (m2 : s.heap.IsTuple l2 ys) (c1 : xs[k]? = some x) (c2 : ys[k]? = some y)
    (go : ∀ g, ZT l1 l2 z TI TO i1 i2 (k + 1) g → IsPair g s.heap.objs.size x y → g.objs.size = s.heap.objs.size + 1 →
      (∀ c o, c ≠ z → c ≠ TO → c ≠ i1 → c ≠ i2 → s.heap.get? c = some o → g.get? c = some o) → Q (.ref s.heap.objs.size) { s with heap := g }) :
    wpAny (model prog w) A (Builtin.«zip.__next__» ⟨[.ref z], []⟩) (fun fin s' => ∃ v, fin = .done (.ret v) ∧ Q v s') E s := by
  obtain ⟨⟨v, fl, hz, ov⟩, pI, ⟨a, b, pO⟩, t1, t2⟩ := Z
  refine rd (j := 2) (x := .bool false) hz rfl rfl (rd (j := 3) (x := .ref TI) hz rfl rfl (wpAny_bind (wpAny_seqItems pI rfl ?_)))
  refine wpAny_bind (is_free hz ov ?yes fun g1 zz1 b1 => ?no)
  case yes =>
    simp only [if_true]
    refine wpAny_bind (wpAny_rule (wpAny_bind (wpAny_field hz rfl (x := .ref TO) rfl (wpAny_bind (wpAny_setField_rec hz (by simp) fun g1 w1 b1 => wpAny_bind ?_)))))
    have zz1 : IsZ g1 z TI TO .ellipsis fl := w1
    simp only [List.zipIdx_cons, List.zipIdx_nil, List.forIn_cons, List.forIn_nil]
    refine wpAny_bind (wpAny_bind (wpAny_onRaise (nx (t1.extBut b1.extBut D.i1z) (m1.extBut b1.extBut D.l1z) c1 fun g2 u1 b2 => wpAny_pure ?_)))
    have p2 : IsPair g2 TO a b := b2.extBut _ _ D.TOi1 (b1.extBut _ _ D.TOz pO)
    refine wpAny_bind (wpAny_seqItems p2 rfl (wpAny_bind (wpAny_updateSeq_pair p2 fun g3 p3' b3 => wpAny_bind (wpAny_letGo (wpAny_pure ?_)))))
    have p3 : IsPair g3 TO x b := p3'
    refine wpAny_bind (wpAny_bind (wpAny_onRaise (nx (((t2.extBut b1.extBut D.i2z).extBut b2.extBut D.i12.symm).extBut b3.extBut D.TOi2.symm) (((m2.extBut b1.extBut D.l2z).extBut b2.extBut D.l2i1).extBut b3.extBut D.l2TO) c2 fun g4 u2 b4 => wpAny_pure ?_)))
    have p4 : IsPair g4 TO x b := b4.extBut _ _ D.TOi2 p3
    refine wpAny_bind (wpAny_seqItems p4 rfl (wpAny_bind (wpAny_updateSeq_pair p4 fun g5 p5' b5 => wpAny_bind (wpAny_letGo (wpAny_pure (wpAny_pure ?_))))))
    have p5 : IsPair g5 TO x y := p5'
    refine wpAny_bind (wpAny_seqItems p5 rfl (wpAny_bind (wpAny_newTuple ?_)))
    have len : g5.objs.size = s.heap.objs.size := b5.1.trans (b4.1.trans (b3.1.trans (b2.1.trans b1.1)))
    have z5 : IsZ g5 z TI TO .ellipsis fl := b5.extBut _ _ D.TOz.symm (b4.extBut _ _ D.i2z.symm (b3.extBut _ _ D.TOz.symm (b2.extBut _ _ D.i1z.symm zz1)))
    have keep : ∀ c o, c ≠ z → c ≠ TO → c ≠ i1 → c ≠ i2 → s.heap.get? c = some o → g5.get? c = some o := fun c o n1 n2 n3 n4 q => b5.extBut _ _ n2 (b4.extBut _ _ n4 (b3.extBut _ _ n2 (b2.extBut _ _ n3 (b1.extBut _ _ n1 q))))
    have v1 : g5.IsTupleIter i1 l1 (k + 1) := ((u1.extBut b3.extBut D.TOi1.symm).extBut b4.extBut D.i12).extBut b5.extBut D.TOi1.symm
    have v2 : g5.IsTupleIter i2 l2 (k + 1) := u2.extBut b5.extBut D.TOi2.symm
    have zl : g5.objs.size ≠ z := Nat.ne_of_gt (Heap.lt_size z5)
    refine wpAny_bind (m := Builtin.SmallTypes.ownedTupleHandOut (.ref z) (.ref g5.objs.size)) ?_
    unfold Builtin.SmallTypes.ownedTupleHandOut
    refine wpAny_bind (wpAny_setField_rec (Heap.get?_push_of_some _ z5 : IsZ (g5.push { cls := .type "tuple", data := .seq #[x, y] }) z TI TO .ellipsis fl) (by simp) fun g7 w7 b7 => ?_)
    have z7 : IsZ g7 z TI TO (rawInt g5.objs.size) fl := w7
    refine wpAny_setField_rec z7 (by simp) fun g8 w8 b8 => wpAny_pure ⟨_, rfl, ?_⟩
    have z8 : IsZ g8 z TI TO (rawInt g5.objs.size) false := w8
    have up : ∀ c o, c ≠ z → g5.get? c = some o → g8.get? c = some o := fun c o n q => b8.extBut _ _ n (b7.extBut _ _ n (Heap.get?_push_of_some _ q))
    have pT : IsPair g8 g5.objs.size x y := b8.extBut _ _ zl (b7.extBut _ _ zl (Heap.get?_push_size _ rfl))
    have l8 : g8.objs.size = g5.objs.size + 1 := (b8.1.trans b7.1).trans (Heap.size_push ..)
    have oz : Out (rawInt g5.objs.size) := .inr ⟨_, rfl⟩
    have st : ZT l1 l2 z TI TO i1 i2 (k + 1) g8 := ⟨⟨_, _, z8, oz⟩, up _ _ D.TIz (keep _ _ D.TIz D.TITO D.TIi1 D.TIi2 pI), ⟨_, _, up _ _ D.TOz p5⟩, v1.at fun o q => up _ o D.i1z q, v2.at fun o q => up _ o D.i2z q⟩
    rw [len] at pT l8
    show Q (.ref g5.objs.size) _
    rw [len]
    exact go g8 st pT l8 fun c o n1 n2 n3 n4 q => up c o n1 (keep c o n1 n2 n3 n4 q)
  case no =>
    simp only [Bool.false_eq_true, if_false]
    refine wpAny_bind ?_
    rw [← Array.forIn_toList]
    simp only [List.forIn_cons, List.forIn_nil]
    refine wpAny_bind (wpAny_bind (wpAny_holding (nx (s := { s with heap := g1 }) (t1.extBut b1.extBut D.i1z) (m1.extBut b1.extBut D.l1z) c1 fun g2 u1 b2 => wpAny_pure (wpAny_pure ?_))))
    refine wpAny_bind (wpAny_bind (wpAny_holding (nx (s := { s with heap := g2 }) ((t2.extBut b1.extBut D.i2z).extBut b2.extBut D.i12.symm) ((m2.extBut b1.extBut D.l2z).extBut b2.extBut D.l2i1) c2 fun g3 u2 b3 => wpAny_pure (wpAny_pure (wpAny_pure ?_)))))
    refine wpAny_bind (m := newTuple [x, y]) (wpAny_newTuple (wpAny_pure ⟨_, rfl, ?_⟩))
    have len : g3.objs.size = s.heap.objs.size := b3.1.trans (b2.1.trans b1.1)
    have z3 : IsZ g3 z TI TO v true := b3.extBut _ _ D.i2z.symm (b2.extBut _ _ D.i1z.symm zz1)
    have keep : ∀ c o, c ≠ z → c ≠ i1 → c ≠ i2 → s.heap.get? c = some o → g3.get? c = some o := fun c o n1 n2 n3 q => b3.extBut _ _ n3 (b2.extBut _ _ n2 (b1.extBut _ _ n1 q))
    have pn : IsPair (g3.push { cls := .type "tuple", data := .seq #[x, y] }) g3.objs.size x y := Heap.get?_push_size _ rfl
    have ln : (g3.push { cls := .type "tuple", data := .seq #[x, y] }).objs.size = g3.objs.size + 1 := Heap.size_push ..
    have old : ∀ {c o}, g3.get? c = some o → (g3.push { cls := .type "tuple", data := .seq #[x, y] }).get? c = some o := fun q => Heap.get?_push_of_some _ q
    have st : ZT l1 l2 z TI TO i1 i2 (k + 1) (g3.push { cls := .type "tuple", data := .seq #[x, y] }) := ⟨⟨_, _, old z3, ov⟩, old (keep _ _ D.TIz D.TIi1 D.TIi2 pI), ⟨_, _, old (keep _ _ D.TOz D.TOi1 D.TOi2 pO)⟩, (u1.extBut b3.extBut D.i12).at fun o q => old q, u2.at fun o q => old q⟩
    show Q (.ref g3.objs.size) _
    rw [len] at pn ln ⊢
    exact go _ st pn ln fun c o n1 _ n3 n4 q => old (keep c o n1 n3 n4 q)
theorem next_end {z TI TO i1 i2 l1 l2 : Addr} {k : Nat} {xs ys : Array Value} {Q : Fin → Shared → Prop} (hh : A.handled = none) (D : ZipApart z TI TO i1 i2 l1 l2)
    (Z : ZT l1 l2 z TI TO i1 i2 k s.heap) (m1 : s.heap.IsTuple l1 xs) (m2 : s.heap.IsTuple l2 ys) (out : xs[k]? = none ∨ ys[k]? = none)
    (go : ∀ g e, (∀ c o, c ≠ z → c ≠ TO → c ≠ i1 → c ≠ i2 → s.heap.get? c = some o → g.get? c = some o) → (∃ o, g.get? e = some o ∧ o.cls = .type "StopIteration") → E (.ref e) { s with heap := g }) :
    wpAny (model prog w) A (Builtin.«zip.__next__» ⟨[.ref z], []⟩) Q E s := by
  obtain ⟨⟨v, fl, hz, ov⟩, pI, ⟨a, b, pO⟩, t1, t2⟩ := Z
  refine rd (j := 2) (x := .bool false) hz rfl rfl (rd (j := 3) (x := .ref TI) hz rfl rfl (wpAny_bind (wpAny_seqItems pI rfl ?_)))
  refine wpAny_bind (is_free hz ov ?yes fun g1 zz1 b1 => ?no)
  case yes =>
    simp only [if_true]
    refine wpAny_bind (wpAny_rule (wpAny_bind (wpAny_field hz rfl (x := .ref TO) rfl (wpAny_bind (wpAny_setField_rec hz (by simp) fun g1 w1 b1 => wpAny_bind ?_)))))
    have zz1 : IsZ g1 z TI TO .ellipsis fl := w1
    simp only [List.zipIdx_cons, List.zipIdx_nil, List.forIn_cons, List.forIn_nil]
    refine wpAny_bind (wpAny_bind (wpAny_onRaise ?_))
    have last : ∀ (g g' : Heap) (e : Addr) (o : Obj), IsZ g z TI TO .ellipsis fl → g.get? e = some o → o.cls = .type "StopIteration" → e ≠ z := fun g g' e o q1 q2 q3 n => by
      rw [n, q1] at q2
      cases q2
      simp at q3
    cases c1 : xs[k]? with
    | none =>
      refine nxe hh (t1.extBut b1.extBut D.i1z) (m1.extBut b1.extBut D.l1z) c1 fun g2 e b2 he => ?_
      obtain ⟨o, eo, ec⟩ := he
      have z2 : IsZ g2 z TI TO .ellipsis fl := b2 _ _ D.i1z.symm zz1
      exact wpAny_setField_rec z2 (by simp) fun g3 _ b3 => go g3 e (fun c o n1 _ n3 _ q => b3.extBut _ _ n1 (b2 _ _ n3 (b1.extBut _ _ n1 q))) ⟨o, b3.extBut _ _ (last g2 g2 e o z2 eo ec) eo, ec⟩
    | some x =>
      have c2 : ys[k]? = none := out.elim (fun n => by rw [c1] at n; cases n) id
      refine nx (t1.extBut b1.extBut D.i1z) (m1.extBut b1.extBut D.l1z) c1 fun g2 u1 b2 => wpAny_pure ?_
      have p2 : IsPair g2 TO a b := b2.extBut _ _ D.TOi1 (b1.extBut _ _ D.TOz pO)
      refine wpAny_bind (wpAny_seqItems p2 rfl (wpAny_bind (wpAny_updateSeq_pair p2 fun g3 p3 b3 => wpAny_bind (wpAny_letGo (wpAny_pure (wpAny_bind (wpAny_bind (wpAny_onRaise ?_))))))))
      refine nxe hh (((t2.extBut b1.extBut D.i2z).extBut b2.extBut D.i12.symm).extBut b3.extBut D.TOi2.symm) (((m2.extBut b1.extBut D.l2z).extBut b2.extBut D.l2i1).extBut b3.extBut D.l2TO) c2 fun g4 e b4 he => ?_
      obtain ⟨o, eo, ec⟩ := he
      have z4 : IsZ g4 z TI TO .ellipsis fl := b4 _ _ D.i2z.symm (b3.extBut _ _ D.TOz.symm (b2.extBut _ _ D.i1z.symm zz1))
      exact wpAny_setField_rec z4 (by simp) fun g5 _ b5 => go g5 e (fun c o n1 n2 n3 n4 q => b5.extBut _ _ n1 (b4 _ _ n4 (b3.extBut _ _ n2 (b2.extBut _ _ n3 (b1.extBut _ _ n1 q))))) ⟨o, b5.extBut _ _ (last g4 g4 e o z4 eo ec) eo, ec⟩
  case no =>
    simp only [Bool.false_eq_true, if_false]
    refine wpAny_bind ?_
    rw [← Array.forIn_toList]
    simp only [List.forIn_cons, List.forIn_nil]
    refine wpAny_bind (wpAny_bind (wpAny_holding ?_))
    cases c1 : xs[k]? with
    | none => exact nxe (s := { s with heap := g1 }) hh (t1.extBut b1.extBut D.i1z) (m1.extBut b1.extBut D.l1z) c1 fun g2 e b2 he => go g2 e (fun c o n1 _ n3 _ q => b2 _ _ n3 (b1.extBut _ _ n1 q)) he
    | some x =>
      have c2 : ys[k]? = none := out.elim (fun n => by rw [c1] at n; cases n) id
      refine nx (s := { s with heap := g1 }) (t1.extBut b1.extBut D.i1z) (m1.extBut b1.extBut D.l1z) c1 fun g2 u1 b2 => wpAny_pure (wpAny_pure (wpAny_bind (wpAny_bind (wpAny_holding ?_))))
      exact nxe (s := { s with heap := g2 }) hh ((t2.extBut b1.extBut D.i2z).extBut b2.extBut D.i12.symm) ((m2.extBut b1.extBut D.l2z).extBut b2.extBut D.l2i1) c2 fun g3 e b3 he => go g3 e (fun c o n1 _ n3 n4 q => b3 _ _ n4 (b2.extBut _ _ n3 (b1.extBut _ _ n1 q))) he
theorem nextOf_item {z TI TO i1 i2 l1 l2 : Addr} {k : Nat} {xs ys : Array Value} {x y : Value} {Q : Value → Shared → Prop} (D : ZipApart z TI TO i1 i2 l1 l2)
    (Z : ZT l1 l2 z TI TO i1 i2 k s.heap) (hl1 : s.heap.IsTuple l1 xs) (hl2 : s.heap.IsTuple l2 ys) (hx : xs[k]? = some x) (hy : ys[k]? = some y)
    (hQ : ∀ h', ZT l1 l2 z TI TO i1 i2 (k + 1) h' → IsPair h' s.heap.objs.size x y → h'.objs.size = s.heap.objs.size + 1 →
      (∀ c o, c ≠ z → c ≠ TO → c ≠ i1 → c ≠ i2 → s.heap.get? c = some o → h'.get? c = some o) → Q (.ref s.heap.objs.size) { s with heap := h' }) :
    wpAny (model prog w) A (Builtin.SmallTypes.nextOf (.ref z)) Q E s := by
  have hT : s.TypeIs (.ref z) "zip" := by obtain ⟨_, _, hz, _⟩ := Z.hz; exact ⟨_, hz, rfl⟩
  unfold Builtin.SmallTypes.nextOf
  exact wpAny_bind (wpAny_callSpecial?_slot (name := Str.ofString "__next__") hT F.slot_zip_next
    (wpAny_call_entry F.slot_zip_next hT F.entry_zip_next
      (next_item D Z hl1 hl2 hx hy fun h' a1 a2 a3 a4 => wpAny_pure (hQ h' a1 a2 a3 a4)) (F.args_zip_next_1 _)))
theorem nextOf_end {z TI TO i1 i2 l1 l2 : Addr} {k : Nat} {xs ys : Array Value} {Q : Value → Shared → Prop} (hh : A.handled = none) (D : ZipApart z TI TO i1 i2 l1 l2)
    (Z : ZT l1 l2 z TI TO i1 i2 k s.heap) (hl1 : s.heap.IsTuple l1 xs) (hl2 : s.heap.IsTuple l2 ys) (hend : xs[k]? = none ∨ ys[k]? = none)
    (hE : ∀ h' e, (∀ c o, c ≠ z → c ≠ TO → c ≠ i1 → c ≠ i2 → s.heap.get? c = some o → h'.get? c = some o) → (∃ o, h'.get? e = some o ∧ o.cls = .type "StopIteration") → E (.ref e) { s with heap := h' }) :
    wpAny (model prog w) A (Builtin.SmallTypes.nextOf (.ref z)) Q E s := by
  have hT : s.TypeIs (.ref z) "zip" := by obtain ⟨_, _, hz, _⟩ := Z.hz; exact ⟨_, hz, rfl⟩
  unfold Builtin.SmallTypes.nextOf
  exact wpAny_bind (wpAny_callSpecial?_slot (name := Str.ofString "__next__") hT F.slot_zip_next
    (wpAny_call_entry F.slot_zip_next hT F.entry_zip_next (next_end hh D Z hl1 hl2 hend hE) (F.args_zip_next_1 _)))
/-- enumerate's next, over any iterator that takes a step -/
theorem enum_next {e it : Addr} {i : Nat} {old : Value} {R : Value → Heap → Tok → Prop} {Q : Option Value → Shared → Prop}
    (he : IsEnum s.heap e it i old)
    (step : ∀ (Q' : Value → Shared → Prop) (E' : Value → Shared → Prop), (∀ x h1 tk, R x h1 tk → Q' x { s with heap := h1, toks := tk }) → wpAny (model prog w) A.in1 (Builtin.SmallTypes.nextOf (.ref it)) Q' E' s)
    (keep : ∀ x h1 tk, R x h1 tk → IsEnum h1 e it i old)
    (hQ : ∀ x h1 tk h', R x h1 tk → IsEnumOut h' e it ((i : Int) + 1) x h1.objs.size → h'.get? h1.objs.size = some { cls := .type "tuple", data := .seq #[.int i tk, x] } → h'.objs.size = h1.objs.size + 1 →
      (∀ b o, b ≠ e → h1.get? b = some o → h'.get? b = some o) → Q (some (.ref h1.objs.size)) { s with heap := h', toks := tk + 1 }) :
    wpAny (model prog w) A (pyNext (.ref e)) Q E s := by
  have tz : s.TypeIs (.ref e) "enumerate" := ⟨_, he, rfl⟩
  unfold pyNext
  refine wpAny_bind (wpAny_attempt (wpAny_callSpecial?_slot (name := Str.ofString "__next__") tz F.slot_enumerate_next (wpAny_call_entry F.slot_enumerate_next tz F.entry_enumerate_next ?_ (F.args_enumerate_next_1 _))))
  refine rd (j := 2) (x := .ref it) he rfl rfl (wpAny_bind (step _ _ fun x g1 tk r => ?_))
  have e1 := keep x g1 tk r
  have le : e < g1.objs.size := Heap.lt_size e1
  refine rd (s := { s with heap := g1, toks := tk }) (j := 3) (x := rawInt i) e1 rfl rfl (rd (s := { s with heap := g1, toks := tk }) (j := 4) (x := .none) e1 rfl rfl ?_)
  refine wpAny_bind (m := mkInt i) (wpAny_mkInt (wpAny_bind (wpAny_setField_rec (s := { s with heap := g1, toks := tk + 1 }) e1 (by simp) fun g2 w2 b2 => ?_)))
  have e2 : IsEnum g2 e it ((i : Int) + 1) old := w2
  refine wpAny_bind (wpAny_setField_rec (s := { s with heap := g2, toks := tk + 1 }) e2 (by simp) fun g3 w3 b3 => ?_)
  have e3 : IsEnum g3 e it ((i : Int) + 1) old := w3
  have len : g3.objs.size = g1.objs.size := b3.1.trans b2.1
  have e4 : IsEnum (g3.push { cls := .type "tuple", data := .seq #[.int i tk, x] }) e it ((i : Int) + 1) old := Heap.get?_push_of_some _ e3
  have t4 : (g3.push { cls := .type "tuple", data := .seq #[.int i tk, x] }).get? g3.objs.size = some { cls := .type "tuple", data := .seq #[.int i tk, x] } := Heap.get?_push_size _ rfl
  have l4 : (g3.push { cls := .type "tuple", data := .seq #[.int i tk, x] }).objs.size = g3.objs.size + 1 := Heap.size_push ..
  have k4 : ∀ b o, b ≠ e → g1.get? b = some o → (g3.push { cls := .type "tuple", data := .seq #[.int i tk, x] }).get? b = some o := fun b o n q => Heap.get?_push_of_some _ (b3.extBut b o n (b2.extBut b o n q))
  refine wpAny_bind (m := newTuple [.int i tk, x]) (wpAny_newTuple (wpAny_bind (m := Builtin.SmallTypes.ownedTupleIsFree (.ref e)) ?_))
  show wpAny _ _ _ _ _ { s with heap := g3.push { cls := .type "tuple", data := .seq #[.int i tk, x] }, toks := tk + 1 }
  rw [len] at t4 l4
  generalize g3.push { cls := .type "tuple", data := .seq #[.int i tk, x] } = g4 at *
  unfold Builtin.SmallTypes.ownedTupleIsFree
  refine wpAny_bind (wpAny_field e4 rfl (x := .none) rfl (wpAny_pure ?_))
  simp only [if_true]
  refine wpAny_bind (wpAny_rule (wpAny_bind (wpAny_field e4 rfl (x := old) rfl (wpAny_bind (wpAny_setField_rec e4 (by simp) fun g5 w5 b5 => ?_)))))
  have e5 : IsEnum g5 e it ((i : Int) + 1) x := w5
  rw [len]
  refine wpAny_bind (m := Builtin.SmallTypes.ownedTupleHandOut (.ref e) (.ref g1.objs.size)) ?_
  unfold Builtin.SmallTypes.ownedTupleHandOut
  refine wpAny_bind (wpAny_setField_rec e5 (by simp) fun g6 w6 b6 => ?_)
  have e6 : IsEnumOut g6 e it ((i : Int) + 1) x g1.objs.size := w6
  refine wpAny_setField_rec e6 (by simp) fun g7 w7 b7 => wpAny_bind (wpAny_letGo (wpAny_pure ⟨_, rfl, wpAny_pure ?_⟩))
  have e7 : IsEnumOut g7 e it ((i : Int) + 1) x g1.objs.size := w7
  have up : ∀ {b o}, b ≠ e → g4.get? b = some o → g7.get? b = some o := fun n q => b7.extBut _ _ n (b6.extBut _ _ n (b5.extBut _ _ n q))
  exact hQ x g1 tk g7 r e7 (up (Nat.ne_of_gt le) t4) ((b7.1.trans (b6.1.trans b5.1)).trans l4) fun b o n q => up n (k4 b o n q)
theorem enum_end {e it : Addr} {i : Int} {old : Value} {R : Heap → Prop} {Q : Option Value → Shared → Prop} (he : IsEnum s.heap e it i old)
    (step : ∀ (Q' : Value → Shared → Prop) (E' : Value → Shared → Prop), (∀ h' x, R h' → (∃ o, h'.get? x = some o ∧ o.cls = .type "StopIteration") → E' (.ref x) { s with heap := h' }) → wpAny (model prog w) A.in1 (Builtin.SmallTypes.nextOf (.ref it)) Q' E' s)
    (hQ : ∀ h', R h' → Q none { s with heap := h' }) : wpAny (model prog w) A (pyNext (.ref e)) Q E s := by
  have hT : s.TypeIs (.ref e) "enumerate" := ⟨_, he, rfl⟩
  unfold pyNext
  refine wpAny_bind (wpAny_attempt (wpAny_callSpecial?_slot (name := Str.ofString "__next__") hT F.slot_enumerate_next
    (wpAny_call_entry F.slot_enumerate_next hT F.entry_enumerate_next ?_ (F.args_enumerate_next_1 _))))
  show wpAny _ _ (field (.ref e) 2 >>= _) _ _ _
  refine wpAny_bind (wpAny_field he rfl (x := .ref it) rfl ?_)
  refine wpAny_bind (step _ _ fun h' x r hx' => ?_)
  obtain ⟨o, ho, hc⟩ := hx'
  refine wpAny_bind (wpAny_isInstance (T := "StopIteration") (b := true) ⟨o, ho, hc⟩ isSubtype_stop ?_)
  exact wpAny_pure (hQ _ r)
end
/-- the tuples at a and b as they stand at each turn: the place and the two items, each pair new -/
def ItEZ (K : PySem.W.Frag) (a b : Addr) : It :=
  ⟨fun i H => ∃ (xs ys : List V) (x y : V), SqT K H a xs ∧ SqT K H b ys ∧ xs[i]? = some x ∧ ys[i]? = some y,
   fun i H v H' => ∃ Z T x y, v = .ref T ∧ H Z = none ∧ upd H Z (.tup [x, y]) T = none ∧ H' = upd (upd H Z (.tup [x, y])) T (.tup [.int (i : Nat), .ref Z]) ∧ (∀ xs, SqT K H a xs → xs[i]? = some x) ∧ ∀ ys, SqT K H b ys → ys[i]? = some y,
   fun i H => ∃ xs ys : List V, SqT K H a xs ∧ SqT K H b ys ∧ (xs.length ≤ i ∨ ys.length ≤ i)⟩
theorem turn_enZ {P : Program} {w : World} {K : PySem.W.Frag} {elts : List Expr} {kk : Nat} {tpos : Pos} {a b e z TI TO i1 i2 : Addr} (D : ZipApart z TI TO i1 i2 a b) (ne : e ∉ [z, TI, TO, i1, i2]) :
    Turn P w K (.Tuple elts kk tpos) (ItEZ K a b) [e, z, TI, TO, i1, i2] e (fun i h => (∃ old, IsEnum h e z ((i : Nat) : Int) old) ∧ ZT a b z TI TO i1 i2 i h) where
  mem := List.mem_cons_self ..
  obj := fun i h st c hc => by
    obtain ⟨⟨old, hE⟩, ⟨v, f, hz, _⟩, hTI, ⟨x, y, hTO⟩, ⟨o1, e1, _, d1⟩, ⟨o2, e2, _, d2⟩⟩ := st
    have e' : c = e ∨ c = z ∨ c = TI ∨ c = TO ∨ c = i1 ∨ c = i2 := by simpa using hc
    rcases e' with q | q | q | q | q | q
    · rw [q]; exact ⟨_, hE, fun v q => nomatch q⟩
    · rw [q]; exact ⟨_, hz, fun v q => nomatch q⟩
    · rw [q]; exact ⟨_, hTI, fun v q => nomatch q⟩
    · rw [q]; exact ⟨_, hTO, fun v q => nomatch q⟩
    · rw [q]; exact ⟨o1, e1, fun v q => by rw [d1] at q; cases q⟩
    · rw [q]; exact ⟨o2, e2, fun v q => by rw [d2] at q; cases q⟩
  keep := fun i h h' st k => by
    obtain ⟨⟨old, hE⟩, ⟨v, f, hz, ov⟩, hTI, ⟨x, y, hTO⟩, h1, h2⟩ := st
    exact ⟨⟨old, k e (by simp) _ hE⟩, ⟨v, f, k z (by simp) _ hz, ov⟩, k TI (by simp) _ hTI, ⟨x, y, k TO (by simp) _ hTO⟩, h1.at fun o q => k i1 (by simp) o q, h2.at fun o q => k i2 (by simp) o q⟩
  item := by
    intro X hP hw hK hc i pins s σ H E I fps st gg
    subst hP hw hK
    obtain ⟨⟨old, hE⟩, Z⟩ := st
    obtain ⟨xs, ys, x, y, hqx, hqy, hx, hy⟩ := gg
    obtain ⟨its, rv, p, _⟩ := I.tuple hqx
    obtain ⟨its2, rv2, p2, _⟩ := I.tuple hqy
    obtain ⟨u, hu, ru⟩ := rv.get hx
    obtain ⟨u2, hu2, ru2⟩ := rv2.get hy
    simp only [List.mem_cons, List.not_mem_nil, or_false, not_or] at ne
    obtain ⟨nz, nTI, nTO, n1, n2⟩ := ne
    have lts : ∀ c ∈ [e, z, TI, TO, i1, i2], c < s.heap.objs.size := fun c hcm => by
      obtain ⟨⟨v, f, hz, _⟩, hTI, ⟨_, _, hTO⟩, ⟨_, e1, _⟩, ⟨_, e2, _⟩⟩ := Z
      have e' : c = e ∨ c = z ∨ c = TI ∨ c = TO ∨ c = i1 ∨ c = i2 := by simpa using hcm
      rcases e' with q | q | q | q | q | q <;> rw [q]
      · exact Heap.lt_size hE
      · exact Heap.lt_size hz
      · exact Heap.lt_size hTI
      · exact Heap.lt_size hTO
      · exact Heap.lt_size e1
      · exact Heap.lt_size e2
    have le : e < s.heap.objs.size := lts e (by simp)
    refine enum_next (R := fun v h1 tk => v = .ref s.heap.objs.size ∧ tk = s.toks ∧ ZT a b z TI TO i1 i2 (i + 1) h1 ∧ IsPair h1 s.heap.objs.size u u2 ∧ h1.objs.size = s.heap.objs.size + 1 ∧ ∀ c o, c ≠ z → c ≠ TO → c ≠ i1 → c ≠ i2 → s.heap.get? c = some o → h1.get? c = some o) hE (fun Q' E' hq => ?_) (fun v h1 tk r => r.2.2.2.2.2 _ _ nz nTO n1 n2 hE) (fun v h1 tk h' r out st1 sz1 kp => ?_)
    · exact nextOf_item D Z p p2 (x := u) (y := u2) (by simpa using hu) (by simpa using hu2) fun h' a1 a2 a3 a4 => hq _ h' s.toks ⟨rfl, rfl, a1, a2, a3, a4⟩
    · obtain ⟨rfl, rfl, Z1, hp, sz, k1⟩ := r
      refine ⟨_, rfl, wpAny_letOwnedTupleGo_enum (s := { s with heap := h', toks := s.toks + 1 }) out fun h2 in2 sb => ?_⟩
      have kk : ∀ c o, c ≠ e → h1.get? c = some o → h2.get? c = some o := fun c o n q => (sb.2 c n).trans (kp c o n q)
      have nTe : h1.objs.size ≠ e := by rw [sz]; exact Nat.ne_of_gt (Nat.lt_succ_of_lt le)
      have hT2 : h2.get? h1.objs.size = some { cls := .type "tuple", data := .seq #[.int i s.toks, .ref s.heap.objs.size] } := (sb.2 _ nTe).trans st1
      have hZ2 : h2.get? s.heap.objs.size = some { cls := .type "tuple", data := .seq #[u, u2] } := kk _ _ (Nat.ne_of_gt le) hp
      have nZ : H s.heap.objs.size = none := I.hok.fresh (Nat.le_refl _)
      have newZ : ObjOk X.prog X.w (upd H s.heap.objs.size (.tup [x, y])) h1 s.heap.objs.size (.tup [x, y]) :=
        ⟨by show 2 ≤ sizeLine; decide, [u, u2], .cons ru (.cons ru2 .nil), ⟨_, hp, rfl, _, rfl⟩⟩
      have hf5 : ∀ c ∈ [z, TI, TO, i1, i2], FpOk X pins H c := fun c hc => fps c (List.mem_cons_of_mem _ hc)
      have I1 : Inv X pins σ (upd H s.heap.objs.size (.tup [x, y])) { s with heap := h1 } :=
        I.turnedNew (t' := s.toks) (ch := [z, TI, TO, i1, i2]) (fun c o hb q => k1 c o (fun q' => hb (by simp [q'])) (fun q' => hb (by simp [q'])) (fun q' => hb (by simp [q'])) (fun q' => hb (by simp [q'])) q) hf5 (Nat.le_refl _) newZ
      have hfe : ∀ c ∈ [e, z, TI, TO, i1, i2], FpOk X pins (upd H s.heap.objs.size (.tup [x, y])) c := fun c hc => by
        obtain ⟨g0, g⟩ := fps c hc
        exact ⟨by rw [upd_ne (Nat.ne_of_lt (lts c hc))]; exact g0, g⟩
      have nT : upd H s.heap.objs.size (.tup [x, y]) h1.objs.size = none := I1.hok.fresh (Nat.le_refl _)
      have newT : ObjOk X.prog X.w (upd (upd H s.heap.objs.size (.tup [x, y])) h1.objs.size (.tup [.int (i : Nat), .ref s.heap.objs.size])) h2 h1.objs.size (.tup [.int (i : Nat), .ref s.heap.objs.size]) :=
        ⟨by show 2 ≤ sizeLine; decide, [.int i s.toks, .ref s.heap.objs.size], .cons ⟨_, rfl⟩ (.cons rfl .nil), ⟨_, hT2, rfl, _, rfl⟩⟩
      have I2 : Inv X pins σ (upd (upd H s.heap.objs.size (.tup [x, y])) h1.objs.size (.tup [.int (i : Nat), .ref s.heap.objs.size])) { s with heap := h2, toks := s.toks + 1 } :=
        I1.turnedNew (t' := s.toks + 1) (ch := [e]) (fun c o hb q => kk c o (fun q' => hb (by simp [q'])) q) (fun c hc => hfe c (by rw [List.mem_singleton.mp hc]; simp)) (Nat.le_refl _) newT
      refine ⟨.ref h1.objs.size, _, I2, rfl, ⟨s.heap.objs.size, h1.objs.size, x, y, rfl, nZ, nT, rfl, fun l hl => by rw [I.tuple_inj hl hqx]; exact hx, fun l hl => by rw [I.tuple_inj hl hqy]; exact hy⟩, ⟨⟨_, by rw [Int.natCast_succ]; exact in2⟩, ?_⟩, fun c hcm => ?_⟩
      · obtain ⟨⟨v, f, hz, ov⟩, hTI, ⟨x', y', hTO⟩, g1, g2⟩ := Z1
        exact ⟨⟨v, f, kk _ _ (Ne.symm nz) hz, ov⟩, kk _ _ (Ne.symm nTI) hTI, ⟨x', y', kk _ _ (Ne.symm nTO) hTO⟩, g1.at fun o q => kk _ o (Ne.symm n1) q, g2.at fun o q => kk _ o (Ne.symm n2) q⟩
      · have l := lts c hcm
        rw [upd_ne (by rw [sz]; exact Nat.ne_of_lt (Nat.lt_succ_of_lt l))]
        exact (hfe c hcm).1
  done := by
    intro X hP hw hK hc i pins s σ H E I fps st gg
    subst hP hw hK
    obtain ⟨⟨old, hE⟩, Z⟩ := st
    obtain ⟨xs, ys, hqx, hqy, hend⟩ := gg
    obtain ⟨its, rv, p, _⟩ := I.tuple hqx
    obtain ⟨its2, rv2, p2, _⟩ := I.tuple hqy
    have l1 := rv.length
    have l2 := rv2.length
    have he : its.toArray[i]? = none ∨ its2.toArray[i]? = none := by
      rcases hend with q | q
      · exact .inl (by simp; omega)
      · exact .inr (by simp; omega)
    have hf5 : ∀ c ∈ [z, TI, TO, i1, i2], FpOk X pins H c := fun c hc => fps c (List.mem_cons_of_mem _ hc)
    refine enum_end (R := fun h' => ∀ c o, c ≠ z → c ≠ TO → c ≠ i1 → c ≠ i2 → s.heap.get? c = some o → h'.get? c = some o) hE (fun Q' E' hq => ?_) (fun h' hk => ?_)
    · exact nextOf_end (I.ok.hd hc) D Z p p2 he fun h' e hk hx => hq h' e hk hx
    · exact ⟨rfl, I.turnedL (t' := s.toks) (ch := [z, TI, TO, i1, i2]) (fun c o hb q => hk c o (fun q' => hb (by simp [q'])) (fun q' => hb (by simp [q'])) (fun q' => hb (by simp [q'])) (fun q' => hb (by simp [q'])) q) hf5⟩
  self := fun A i s Q E st h => let ⟨⟨_, hE⟩, _⟩ := st; wpAny_pyIter_enum hE h
abbrev enZO (z : Addr) : Obj := { cls := .type "enumerate", data := .fields #[.none, .bool false, .ref z, rawInt 0, .none, .none] }
theorem enZ_new {z : Addr} : Meets (Builtin.«enumerate.__new__» ⟨[.type "enumerate", .ref z], []⟩) (fun _ R s => (∃ TI TO, IsZip s.heap z TI TO .none) ∧ R (.ok (.ret (.ref s.heap.objs.size))) { s with heap := s.heap.push (enZO z) }) :=
  .of_wp fun P W A R s zz => by
    obtain ⟨hp, g, d, tk, os⟩ := s
    obtain ⟨⟨TI, TO, hB⟩, q⟩ := zz
    have sb := sub_enumerate
    have begin : ∀ {A2 : Around} {E : Value → Shared → Prop} {Q : Value → Shared → Prop}, Q (.ref z) ⟨hp, g, d, tk, os⟩ → wpAny (model P W) A2 (pyIter (.ref z)) Q E ⟨hp, g, d, tk, os⟩ :=
      fun y => wpAny_pyIter_zip hB y
    wp_walk using begin
    refine wpAny_stack_any fun stk => wpAny_pure ?_
    split
    all_goals first
      | (wp_walk using begin; exact ⟨_, rfl, q⟩)
      | (rename_i c _ _ _ _ _
         cases (c == Value.type "enumerate") <;> (wp_walk using begin; exact ⟨_, rfl, q⟩))
theorem call_enZ {P : Program} {w : World} {A : Around} {E : Value → Shared → Prop} {s : Shared} {z TI TO : Addr} {Q : Value → Shared → Prop} (hB : IsZip s.heap z TI TO .none)
    (q : ∀ h', IsEnum h' s.heap.objs.size z 0 .none → (∀ b x, s.heap.get? b = some x → h'.get? b = some x) → Q (.ref s.heap.objs.size) { s with heap := h' }) :
    wpAny (model P w) A (call (.type "enumerate") [.ref z]) Q E s := by
  refine callType_new F.called_enumerate (by decide) (F.typeCall_enumerate_1 _) (F.newCall_enumerate_1 _) (fun obj => F.args_object_init_2 obj _) F.entry_enumerate_new enZ_new ⟨⟨TI, TO, hB⟩, ?_⟩
  have isE : IsEnum (s.heap.push (enZO z)) s.heap.objs.size z 0 .none := Heap.get?_push_size _ rfl
  exact ⟨⟨_, isE, rfl⟩, q _ isE fun b x e => Heap.get?_push_of_some _ e⟩
def iEnZ (K : PySem.W.Frag) (ta : TA) : TI := fun σ H R => ta σ H fun vs H1 => ∃ a b xs ys, vs = [.ref a, .ref b] ∧ SqT K H1 a xs ∧ SqT K H1 b ys ∧ R (ItEZ K a b) H1
theorem pi_enZ {X : Cx} {e e2 : Expr} {ta : TA} {p p2 pos pos2 tpos : Pos} {elts : List Expr} {kk : Nat} (hg : Gl X "enumerate") (hm : X.mg "enumerate" = none) (hg2 : Gl X "zip") (hm2 : X.mg "zip" = none) (ha : PA X [e, e2] ta)
    (hs1 : starEach [.Call (.Name "zip" p2) [e, e2] [] pos2] X.env = [(false, eval (.Call (.Name "zip" p2) [e, e2] [] pos2) X.env)] := by rfl)
    (hs : starEach [e, e2] X.env = (false, eval e X.env) :: starEach [e2] X.env := by rfl) (hpl : (backTo pos2 (starEach [e2] X.env)).any (·.1) = false := by rfl) :
    PI X (.Tuple elts kk tpos) (.Call (.Name "enumerate" p) [.Call (.Name "zip" p2) [e, e2] [] pos2] [] pos) (iEnZ X.K ta) := by
  refine ⟨fun pins s σ H R I h => ?_⟩
  refine Call_ (ld_blt I hg hm boot_enumerate (PyProof.Rows.callWith_type1 ?_ hs1 rfl))
  rw [hs1]
  show wpAny _ _ (spliced [(false, eval (.Call (.Name "zip" p2) [e, e2] [] pos2) X.env)]) _ _ _
  refine Calls.spliced_cons ?_
  refine Call_ (ld_blt I hg2 hm2 PyProof.Rows.boot_zip (PyProof.Rows.callWith_type1 (thn (ha.run pos2 pins s σ H _ I h) fun us s1 ⟨vs, H1, I1, r1, q1⟩ => ?_) hs hpl))
  obtain ⟨a, b, xs, ys, ex, hqx, hqy, q⟩ := q1
  subst ex
  cases r1 with
  | cons r rr =>
    cases rr with
    | cons r' rr =>
      cases rr
      cases r
      cases r'
      obtain ⟨its, rv, p1, _⟩ := I1.tuple hqx
      obtain ⟨its2, rv2, p2, _⟩ := I1.tuple hqy
      obtain ⟨o1, ho1, _⟩ := id p1
      obtain ⟨o2, ho2, _⟩ := id p2
      refine call_zipT (show s1.heap.IsTuple a its.toArray from p1) (show s1.heap.IsTuple b its2.toArray from p2) fun h' hz hTI hTO h1 h2 hsz hk => Calls.spliced_nil ?_
      refine call_enZ (s := { s1 with heap := h' }) hz fun h3 isE kp => wpAny_pyIter_enum isE ?_
      have I2 : Inv X pins σ H1 { s1 with heap := h3 } := I1.kept (t' := s1.toks) fun c o q => kp c o (hk c o q)
      have D := PySem.W.ktu_apart s1.heap.objs.size a b (Heap.lt_size ho1) (Heap.lt_size ho2)
      refine ⟨h'.objs.size, [h'.objs.size, s1.heap.objs.size + 4, s1.heap.objs.size + 2, s1.heap.objs.size + 3, s1.heap.objs.size, s1.heap.objs.size + 1], _, _, H1, rfl, I2, turn_enZ D ?_, ⟨⟨_, isE⟩, ⟨_, _, kp _ _ hz, .inl rfl⟩, kp _ _ hTI, ⟨_, _, kp _ _ hTO⟩, h1.at fun o q => kp _ o q, h2.at fun o q => kp _ o q⟩, fun c hcm => ?_, q⟩
      · simp only [List.mem_cons, List.not_mem_nil, or_false, not_or]
        rw [hsz]
        refine ⟨?_, ?_, ?_, ?_, ?_⟩ <;> exact fun z => by simp at z
      · have hle : s1.heap.objs.size ≤ c := by
          have e' : c = h'.objs.size ∨ c = s1.heap.objs.size + 4 ∨ c = s1.heap.objs.size + 2 ∨ c = s1.heap.objs.size + 3 ∨ c = s1.heap.objs.size ∨ c = s1.heap.objs.size + 1 := by simpa using hcm
          rcases e' with z | z | z | z | z | z
          · rw [z, hsz]; exact Nat.le_add_right _ _
          · rw [z]; exact Nat.le_add_right _ _
          · rw [z]; exact Nat.le_add_right _ _
          · rw [z]; exact Nat.le_add_right _ _
          · rw [z]; exact Nat.le_refl _
          · rw [z]; exact Nat.le_add_right _ _
        exact I1.fpOk hle (I1.hok.fresh hle)
/-- such a loop over two tuples of one length, by one word a turn -/
theorem for_enZ {K : PySem.W.Frag} {a b : Addr} {xs ys : List V} {g : TG} {tb : TS} {D : Ends} {σ : L2.St} {H : Hp} (hl : xs.length = ys.length) (Pv : Nat → L2.St → Hp → Prop) (h0 : Pv 0 σ H) (hq : ∀ i σ H, Pv i σ H → SqT K H a xs ∧ SqT K H b ys)
    (hs : ∀ (i : Nat) (x y : V) (Z T : Addr) (σ : L2.St) (H : Hp), xs[i]? = some x → ys[i]? = some y → Pv i σ H → H Z = none → upd H Z (.tup [x, y]) T = none → g (.ref T) σ (upd (upd H Z (.tup [x, y])) T (.tup [.int (i : Nat), .ref Z])) fun σ2 H2 => tb { D with nx := Pv (i + 1), ct := Pv (i + 1), bk := D.nx } σ2 H2) (hd : ∀ σ H, Pv xs.length σ H → D.nx σ H) :
    ∃ W : Nat → Nat → L2.St → Hp → Prop, (∃ m, W 0 m σ H) ∧ ∀ i m σ H, W i m σ H →
      ((ItEZ K a b).stop i H ∧ D.nx σ H) ∨ ((ItEZ K a b).go i H ∧ ∃ N : L2.St → Hp → Prop, (∀ σ' H', N σ' H' → ∃ m', m' < m ∧ W (i + 1) m' σ' H') ∧ ∀ v H', (ItEZ K a b).yld i H v H' → g v σ H' fun σ2 H2 => tb { D with nx := N, ct := N, bk := D.nx } σ2 H2) := by
  refine ⟨fun i m σ H => m = xs.length - i ∧ i ≤ xs.length ∧ Pv i σ H, ⟨xs.length, rfl, Nat.zero_le _, h0⟩, ?_⟩
  rintro i m σ H ⟨rfl, hi, p⟩
  obtain ⟨qx, qy⟩ := hq i σ H p
  by_cases hlt : i < xs.length
  · have hx : xs[i]? = some xs[i] := List.getElem?_eq_getElem hlt
    have hy : ys[i]? = some (ys[i]'(by omega)) := List.getElem?_eq_getElem (by omega)
    refine .inr ⟨⟨xs, ys, _, _, qx, qy, hx, hy⟩, Pv (i + 1), fun σ' H' p' => ⟨_, by omega, rfl, hlt, p'⟩, fun v H' y => ?_⟩
    obtain ⟨Z, T, x, y, rfl, nZ, nT, rfl, f, f2⟩ := y
    exact hs i x y Z T σ H (f xs qx) (f2 ys qy) p nZ nT
  · obtain rfl : i = xs.length := by omega
    exact .inl ⟨⟨xs, ys, qx, qy, .inl (Nat.le_refl _)⟩, hd σ H p⟩
end EZ

namespace M66
open PySem PySem.Spec PyProof.Rows L2 SX Own Gd
open C8 (Cal pe_c pe_gc pe_mk Mak pss_cut)
/-! ### the draws to the least box -/
abbrev Dw := Int × Int × Int
def sel (f : Fr) (s : Nat) : Int := if s = 0 then f.1 else f.2
def sd1 (i s : Nat) (p q : Fr) : List Dw := if sel p s = sel q s then [] else [((i : Int), (s : Int), sel q s)]
/-- the draws of the first sides of one place -/
def sdN (i : Nat) (p q : Fr) : Nat → List Dw
  | 0 => []
  | s + 1 => sdN i p q s ++ sd1 i s p q
/-- the draws of the first places -/
def drawsU (box B : List Fr) : Nat → List Dw
  | 0 => []
  | n + 1 => drawsU box B n ++ sdN n (box.getD n (0, 0)) (B.getD n (0, 0)) 2
theorem sd1_len {i s : Nat} {p q : Fr} : (sd1 i s p q).length ≤ 1 := by
  unfold sd1
  split
  · exact Nat.zero_le _
  · exact Nat.le_refl _
theorem sdN_len {i : Nat} {p q : Fr} : ∀ s, (sdN i p q s).length ≤ s
  | 0 => Nat.le_refl _
  | s + 1 => by
    have := sdN_len (i := i) (p := p) (q := q) s
    have := sd1_len (i := i) (s := s) (p := p) (q := q)
    show (sdN i p q s ++ sd1 i s p q).length ≤ s + 1
    rw [List.length_append]
    omega
theorem drawsU_len {box B : List Fr} : ∀ n, (drawsU box B n).length ≤ 2 * n
  | 0 => Nat.le_refl _
  | n + 1 => by
    have := drawsU_len (box := box) (B := B) n
    have := sdN_len (i := n) (p := box.getD n (0, 0)) (q := B.getD n (0, 0)) 2
    show (drawsU box B n ++ _).length ≤ _
    rw [List.length_append]
    omega
def LeafV (H : Hp) (v : V) (k : Nat) : Prop := ∃ q, v = .ref q ∧ H q = some (.tup [.str "shut", .int k])
theorem LeafV.tk {H H' : Hp} {v : V} {k : Nat} (h : LeafV H v k) (s : TK H H') : LeafV H' v k := by
  obtain ⟨q, e, g⟩ := h
  exact ⟨q, e, s _ _ g⟩
def DwV (H : Hp) (k : Nat) (u : V) (d : Dw) : Prop := ∃ q lv, u = .ref q ∧ H q = some (.tup [.int d.1, .int d.2.1, .int d.2.2, lv]) ∧ LeafV H lv k
theorem DwV.tk {H H' : Hp} {v : V} {k : Nat} {d : Dw} (h : DwV H k v d) (s : TK H H') : DwV H' k v d := by
  obtain ⟨q, lv, e, g, l⟩ := h
  exact ⟨q, lv, e, s _ _ g, l.tk s⟩
def DrsV (H : Hp) (v : V) (k : Nat) (ds : List Dw) : Prop := ∃ p us, v = .ref p ∧ H p = some (.tup us) ∧ All2 (DwV H k) us ds
theorem DrsV.tk {H H' : Hp} {v : V} {k : Nat} {ds : List Dw} (h : DrsV H v k ds) (s : TK H H') : DrsV H' v k ds := by
  obtain ⟨p, us, e, g, l⟩ := h
  exact ⟨p, us, e, s _ _ g, l.mono fun v d g => g.tk s⟩
def NoV (H : Hp) (v : V) (k : Nat) : Prop := ∃ p lv, v = .ref p ∧ H p = some (.tup [.str "leaf", lv]) ∧ LeafV H lv k
theorem NoV.tk {H H' : Hp} {v : V} {k : Nat} (h : NoV H v k) (s : TK H H') : NoV H' v k := by
  obtain ⟨p, lv, e, g, l⟩ := h
  exact ⟨p, lv, e, s _ _ g, l.tk s⟩
theorem at_sel {f : Fr} {s : Nat} (h : s < 2) : atI [V.int f.1, V.int f.2] (s : Int) = some (.int (sel f s)) := by
  match s, h with
  | 0, _ => rfl
  | 1, _ => rfl
section
variable {P : Program} {w : World} {K : PySem.W.Frag} {mg : Str → Option Value} {base : Heap} {aW aT : Addr} {es : Array DictEntry} {nn : Nat}
abbrev s_either_draws : Stmt := topS 44
abbrev n_either_draws : List Str := ["task", "number", "box", "leaf", "least", "draws", "at", "pair", "other", "side"]
theorem sc_either_draws : FnScope n_either_draws ["task", "number", "box"] (defScope s_either_draws) := ⟨rfl, rfl, rfl, by decide +kernel, rfl, by decide +kernel, by decide +kernel⟩
def spDraws (C CR : Addr) : Sp := fun vs H Q E => ∃ (tv x b : V) (ul : List Unk) (wl : List Wish) (goal : List Int) (box : List Fr), vs = [tv, x, b] ∧ TaskV C H tv ul wl goal ∧ wl.length ≤ 100 ∧
  ((∃ (k : Nat) (rs : List Row), x = .int k ∧ wl[k]? = some (.either rs) ∧ SV H b box ∧ box.length ≤ 100 ∧ Bx box ∧ RsOk rs box.length ∧ ((¬ ∃ x, Ei box rs x) → ∀ H' v, Same H H' → NoV H' v k → Q v H') ∧ ∀ H' v B, Same H H' → Lst (Ei box rs) box.length B → DrsV H' v k (drawsU box B box.length) → Q v H') ∨ (Odd H wl x ∧ ∀ d H2, Same H H2 → H2 d = some (.xd [("word", .str "wish")]) → E (.ref CR) (some d) H2))
theorem ok_either_draws {f C CR : Addr} {fd : FuncData} (F : Fun K "either_draws" "either_draws" s_either_draws f fd) (T : Txt K mg w aW aT es nn) (x_either_box : CalX P w K mg base 6 "either_box" (spBox C CR)) : FnOk P w K mg base (L2.CX P w) 7 f fd ["task", "number", "box"] (spDraws C CR) := by
  refine F.okX sc_either_draws (fun vs H Q E h => ?_) (fun cdv A outer s H vs Q E hr h => ?_)
  · obtain ⟨tv, x, b, ul, wl, goal, box, rfl, _⟩ := h
    rfl
  · obtain ⟨tv, x, b, ul, wl, goal, box, rfl, tk0, lw, h⟩ := h
    refine ⟨_, (pss_cons (ps_set (i := 3) sc_either_draws.nd rfl (.inl rfl) (pe_tup (pa_cons pe_str (pa_cons (pv 1) pa_nil))))
      (pss_cons (ps_set (i := 4) sc_either_draws.nd rfl (.inl rfl) (pe_xE (E := E) (passes_call (takes_of rfl rfl rfl rfl) fun _ _ _ _ z => z) x_either_box hr (by decide) (by rfl) (pa_cons (pv 0) (pa_cons (pv 1) (pa_cons (pv 2) pa_nil)))))
      (pss_cons (ps_if (pt_cmpR op_isN (pv 4) pe_non (nomark _)) (pss_one (ps_ret (pe_tup (pa_cons pe_str (pa_cons (pv 3) pa_nil))))) pss_nil)
      (pss_cons (ps_set (i := 5) sc_either_draws.nd rfl (.inl rfl) (pe_lst pa_nil))
      (pss_cons (ps_for (passes_of rfl) rfl (EZ.pi_enZ (by rfl) T.b_enumerate (by rfl) T.b_zip (pa_cons (pv 2) (pa_cons (pv 4) pa_nil))) (pg_tup rfl (pgs_cons (pg_name (i := 6) sc_either_draws.nd rfl (.inl rfl)) (pgs_cons (pg_tup rfl (pgs_cons (pg_name (i := 7) sc_either_draws.nd rfl (.inl rfl)) (pgs_cons (pg_name (i := 8) sc_either_draws.nd rfl (.inl rfl)) pgs_nil))) pgs_nil))) (pss_one (ps_for (passes_of rfl) rfl (pi_tup (pe_tup (pa_cons pe_int (pa_cons pe_int pa_nil)))) (pg_name (i := 9) sc_either_draws.nd rfl (.inl rfl)) (pss_one (ps_if (pt_cmpR op_ne (pe_ix ix_tup (pv 7) (pv 9) (fun _ _ => rfl)) (pe_ix ix_tup (pv 8) (pv 9) (fun _ _ => rfl)) (nomark _)) (pss_one (ps_expr (pe_bm PySem.F.plainAttrs_list PySem.F.slot_list_append PySem.F.type_list_append mt_append (pv 5) (pa_cons (pe_tup (pa_cons (pv 6) (pa_cons (pv 9) (pa_cons (pe_ix ix_tup (pv 8) (pv 9) (fun _ _ => rfl)) (pa_cons (pv 3) pa_nil))))) pa_nil)))) pss_nil)))))
      (pss_one (ps_ret (pe_callTy call_tuple_of (by rfl) T.b_tuple (by decide +kernel) (pa_cons (pv 5) pa_nil))))))))), ?_⟩
    refine ⟨_, rfl, len2, fun lf nlf => ?_⟩
    have k0 := same_upd (o := .tup [.str "shut", x]) nlf
    have elf : upd H lf (.tup [.str "shut", x]) lf = some (.tup [.str "shut", x]) := upd_same
    generalize upd H lf (.tup [.str "shut", x]) = H0 at *
    rcases h with ⟨k, rs, rfl, hk, bv, b100, hb, ok, fin0, fin⟩ | ⟨odd, fin⟩
    · refine ⟨_, rfl, _, rfl, _, rfl, tv, _, b, ul, wl, goal, box, rfl, same_tv tk0 k0, lw, .inl ⟨k, rs, rfl, hk, bv.same k0, b100, hb, ok, fun ne H1 s1 => ?_, fun H1 v B s1 lst Bv => ?_⟩⟩
      · refine ⟨_, rfl, rfl, _, rfl, ite2 (fun _ => ?_) (fun z => absurd (decide_eq_true rfl) z)⟩
        refine ⟨_, rfl, len2, fun r nr => ?_⟩
        have kr := same_upd (o := .tup [.str "leaf", .ref lf]) nr
        exact fin0 ne _ (.ref r) (k0.trans (s1.trans kr)) ⟨r, .ref lf, rfl, upd_same, lf, rfl, kr _ _ (s1 _ _ elf)⟩
      · obtain ⟨pB, Bs, rfl, hpB, alB⟩ := Bv
        obtain ⟨pb, bs, rfl, hpb, alb⟩ := bv.same (k0.trans s1)
        have lb := alb.len
        have lB := alB.len
        have lBb : B.length = box.length := lst.1
        refine ⟨_, rfl, rfl, _, rfl, ite2 (fun z => absurd (of_decide_eq_true z) (fun z => by cases z)) (fun _ => ?_)⟩
        refine ⟨nil_ok, fun L nL => ?_⟩
        have kL := same_upd (o := .lst []) nL
        have eL : upd H1 L (.lst []) L = some (.lst []) := upd_same
        generalize upd H1 L (.lst []) = H2 at *
        refine ⟨_, rfl, _, rfl, pb, pB, bs, Bs, rfl, sq_tup (kL _ _ hpb), sq_tup (kL _ _ hpB), EZ.for_enZ (K := K) (a := pb) (b := pB) (xs := bs) (ys := Bs) (by omega)
          (fun i σ H' => ∃ (us : List V) (y6 y7 y8 y9 : Option V), σ = [some tv, some (.int (k : Nat)), some (.ref pb), some (.ref lf), some (.ref pB), some (.ref L), y6, y7, y8, y9] ∧ H' L = some (.lst us) ∧ All2 (DwV H' k) us (drawsU box B i) ∧ Same H1 H')
          ⟨[], none, none, none, none, rfl, eL, .nil, kL⟩ (fun i σ H' h => ?_) (fun i c d Z T σ H' hc hd h nZ nT => ?_) (fun σ H' h => ?_)⟩
        · obtain ⟨us, y6, y7, y8, y9, rfl, eL', al, sm⟩ := h
          exact ⟨sq_tup (sm _ _ hpb), sq_tup (sm _ _ hpB)⟩
        · obtain ⟨us, y6, y7, y8, y9, rfl, eL', al, sm⟩ := h
          obtain ⟨p, hp, pp, rfl, hpp⟩ := alb.at_ hc
          obtain ⟨q, hq, qq, rfl, hqq⟩ := alB.at_ hd
          have sZ := same_upd (o := .tup [.ref pp, .ref qq]) nZ
          have hZ : upd H' Z (.tup [.ref pp, .ref qq]) Z = some (.tup [.ref pp, .ref qq]) := upd_same
          generalize upd H' Z (.tup [.ref pp, .ref qq]) = HZ at *
          have sT := same_upd (o := .tup [.int (i : Nat), .ref Z]) nT
          have hT : upd HZ T (.tup [.int (i : Nat), .ref Z]) T = some (.tup [.int (i : Nat), .ref Z]) := upd_same
          have s2 := sZ.trans sT
          have eLT := s2 _ _ eL'
          have alT := al.mono fun v f g => DwV.tk g (.of s2)
          have hppT := (sm.trans s2) _ _ hpp
          have hqqT := (sm.trans s2) _ _ hqq
          have hZT := sT _ _ hZ
          generalize upd HZ T (.tup [.int (i : Nat), .ref Z]) = HT at *
          refine ⟨T, _, rfl, sq_tup hT, rfl, _, _, rfl, _, _, rfl, Z, _, rfl, sq_tup hZT, rfl, _, _, rfl, _, _, rfl, rfl, rfl, ?_⟩
          refine ⟨len2, fun tt ntt => ?_⟩
          have kt := same_upd (o := .tup [.int 0, .int 1]) ntt
          have htt : upd HT tt (.tup [.int 0, .int 1]) tt = some (.tup [.int 0, .int 1]) := upd_same
          have eL3 := kt _ _ eLT
          have al3 := alT.mono fun v f g => DwV.tk g (.of kt)
          have s3 := sm.trans (s2.trans kt)
          generalize upd HT tt (.tup [.int 0, .int 1]) = H3 at *
          refine ⟨tt, rfl, ⟨_, sq_tup htt⟩, for_tup (xs := [V.int 0, V.int 1]) (fun j σ H' => ∃ (us : List V) (y9 : Option V), σ = [some tv, some (.int (k : Nat)), some (.ref pb), some (.ref lf), some (.ref pB), some (.ref L), some (.int (i : Nat)), some (.ref pp), some (.ref qq), y9] ∧ H' L = some (.lst us) ∧ All2 (DwV H' k) us (drawsU box B i ++ sdN i p q j) ∧ H' tt = some (.tup [.int 0, .int 1]) ∧ Same H1 H')
            ⟨us, y9, rfl, eL3, by rw [show sdN i p q 0 = [] from rfl, List.append_nil]; exact al3, htt, s3⟩ (fun j σ H' _ h => ?_) (fun j v σ H' hv h => ?_) (fun σ H' h => ?_)⟩
          · obtain ⟨us, y9, rfl, _, _, ht, _⟩ := h
            exact sq_tup ht
          · obtain ⟨us, y9, rfl, eL4, al4, ht, s4⟩ := h
            obtain ⟨hj, rfl⟩ : j < 2 ∧ v = .int (j : Nat) := by
              match j, hv with
              | 0, hv => cases hv; exact ⟨by omega, rfl⟩
              | 1, hv => cases hv; exact ⟨by omega, rfl⟩
            have hppj := s4 _ _ hpp
            have hqqj := s4 _ _ hqq
            refine ⟨_, rfl, _, rfl, pp, _, (j : Int), _, rfl, rfl, sq_tup hppj, at_sel hj, _, rfl, _, rfl, qq, _, (j : Int), _, rfl, rfl, sq_tup hqqj, at_sel hj, rfl, _, rfl, ite2 (fun z => ?_) (fun z => ?_)⟩
            · have ne : sel p j ≠ sel q j := fun e => by rw [e] at z; simp at z
              have e1 : sd1 i j p q = [((i : Int), (j : Int), sel q j)] := by unfold sd1; rw [if_neg ne]
              have la := al4.len
              have u1 := drawsU_len (box := box) (B := B) i
              have u2 := sdN_len (i := i) (p := p) (q := q) j
              have hi : i < box.length := (List.getElem?_eq_some_iff.mp hp).1
              rw [List.length_append] at la
              refine ⟨_, rfl, .inl ⟨rfl, _, sq_lst eL4⟩, _, rfl, _, rfl, _, rfl, _, rfl, qq, _, (j : Int), _, rfl, rfl, sq_tup hqqj, at_sel hj, _, rfl, (show 4 ≤ sizeLine by decide), fun pn npn => ?_⟩
              have kn := same_upd (o := .tup [.int (i : Nat), .int (j : Nat), .int (sel q j), .ref lf]) npn
              have hn : upd H' pn (.tup [.int (i : Nat), .int (j : Nat), .int (sel q j), .ref lf]) pn = some (.tup [.int (i : Nat), .int (j : Nat), .int (sel q j), .ref lf]) := upd_same
              have eLn := kn _ _ eL4
              have aln := al4.mono fun v f g => DwV.tk g (.of kn)
              have sn := s4.trans kn
              have htn := kn _ _ ht
              generalize upd H' pn (.tup [.int (i : Nat), .int (j : Nat), .int (sel q j), .ref lf]) = Hn at *
              have tkp : TK Hn (upd Hn L (.lst (us ++ [.ref pn]))) := TK.put eLn
              refine ⟨L, _, _, rfl, rfl, eLn, small1000 (by omega), us ++ [.ref pn], _, rfl, upd_same, ?_, tkp _ _ htn, same_at sn nL⟩
              show All2 _ _ (drawsU box B i ++ (sdN i p q j ++ sd1 i j p q))
              rw [e1, ← List.append_assoc]
              exact (aln.mono fun v d g => g.tk tkp).app ⟨pn, .ref lf, rfl, tkp _ _ hn, lf, rfl, tkp _ _ (sn _ _ (s1 _ _ elf))⟩
            · have eq : sel p j = sel q j := Classical.byContradiction fun e => z (by simp [e])
              have e1 : sd1 i j p q = [] := by unfold sd1; rw [if_pos eq]
              refine ⟨us, _, rfl, eL4, ?_, ht, s4⟩
              show All2 _ _ (drawsU box B i ++ (sdN i p q j ++ sd1 i j p q))
              rw [e1, List.append_nil]
              exact al4
          · obtain ⟨us, y9, rfl, eL4, al4, ht, s4⟩ := h
            refine ⟨us, _, _, _, _, rfl, eL4, ?_, s4⟩
            show All2 _ _ (drawsU box B i ++ sdN i (box.getD i (0, 0)) (B.getD i (0, 0)) 2)
            rw [List.getD_eq_getElem?_getD, List.getD_eq_getElem?_getD, hp, hq]
            exact al4
        · obtain ⟨us, y6, y7, y8, y9, rfl, eL', al, sm⟩ := h
          refine ⟨_, rfl, L, _, rfl, .inl ⟨sq_lst eL', fun l nl => ?_⟩⟩
          have kl := same_upd (o := .tup us) nl
          rw [lb] at al
          exact fin _ (.ref l) B (k0.trans (s1.trans (sm.trans kl))) lst ⟨l, us, rfl, upd_same, al.mono fun v d g => g.tk (.of kl)⟩
    · refine ⟨_, rfl, _, rfl, _, rfl, tv, x, b, ul, wl, goal, box, rfl, same_tv tk0 k0, lw, .inr ⟨odd.tk (.of k0), fun d H2 s2 h2 => fin d H2 (k0.trans s2) h2⟩⟩
end
end M66

/-! The end of a law whose promise wants to know what is under way: it is called by the judge's caller, where nothing is. -/
namespace Gd
open PySem PySem.Spec PyProof.Rows L2 LamX
/-- what is tracked ahead of the law's call: the tables ts, and the script at a unless it is of the written part -/
def h0 (ts : List Addr) (w : Bool) (a : Addr) (o : Obj) (xs : List V) : Hp := fun b => if b ∈ ts then some (.tbl #[]) else if w = true ∧ b = a then some (.frz o (.lst xs)) else none
section
variable {ts : List Addr} {w : Bool} {a b : Addr} {o : Obj} {xs : List V}
theorem h0_tab (h : b ∈ ts) : h0 ts w a o xs b = some (.tbl #[]) := if_pos h
theorem h0_at (h : a ∉ ts) (hw : w = true) : h0 ts w a o xs a = some (.frz o (.lst xs)) := by unfold h0; rw [if_neg h, if_pos ⟨hw, rfl⟩]
theorem h0_none (h : b ∉ ts) (h2 : ¬ (w = true ∧ b = a)) : h0 ts w a o xs b = none := by unfold h0; rw [if_neg h, if_neg h2]
theorem h0_cases (b : Addr) : (b ∈ ts ∧ h0 ts w a o xs b = some (.tbl #[])) ∨ (b ∉ ts ∧ w = true ∧ b = a ∧ h0 ts w a o xs b = some (.frz o (.lst xs))) ∨ (b ∉ ts ∧ ¬ (w = true ∧ b = a) ∧ h0 ts w a o xs b = none) := by
  by_cases h : b ∈ ts
  · exact .inl ⟨h, h0_tab h⟩
  · by_cases h2 : w = true ∧ b = a
    · exact .inr (.inl ⟨h, h2.1, h2.2, by obtain ⟨hw, rfl⟩ := h2; exact h0_at h hw⟩)
    · exact .inr (.inr ⟨h, h2, h0_none h h2⟩)
end
/-- what is known of the law's promise at the head's heap h -/
def LawG (l : PySem.W.OpenLaw) (w : World) (K : PySem.W.Frag) (k n : Nat) (x : Str) (mg : Str → Option Value) (fa : Addr) (h : Heap) : Prop :=
  ∃ (fd : FuncData) (cs : List (Addr × Addr)) (sp : Sp), (∀ p ∈ cs, h.get? p.2 = some { cls := .none, data := .fields #[] }) ∧ (∀ p ∈ cs, K.lookup p.2 = none) ∧ (∀ p ∈ cs, PySem.W.CodeHd h p.1 p.2) ∧ (∀ (s : Shared) (u : Value), BindsTo s fd ⟨[u], []⟩ [(x, u)]) ∧
    (∀ (H : Hp) (a : Addr) (ns : List Int), ns.length ≤ n → (∀ z ∈ ns, Builtin.Int.intBits z ≤ 1048576) → (∀ p ∈ cs, H p.2 = some (.tbl #[])) → SqL K H a (ns.map V.int) → sp [.ref a] H (fun v _ => v = .bl true) fun _ _ _ => False) ∧
    ∀ base : Heap, K.In base → base.Ns mainGlobals mg → (∀ p ∈ cs, TabB base mg p.1 p.2) → FnG l.prog w K mg base CX0 k fa fd [x] sp
section
variable {P : Program} {w : World} {K : PySem.W.Frag} {mg mb : Str → Option Value} {k : Nat} {fa a : Addr} {cs : List (Addr × Addr)} {fd : FuncData} {x : Str} {sp : Sp} {s₁ : Shared} {vs : List Value} {ns : List Int}
theorem law_callG (KX : K.In s₁.heap) (hns : s₁.heap.Ns mainGlobals mg) (hb : s₁.heap.Ns builtinsNs mb) (hbb : ∀ x : Str, x ≠ "__name__" → mb x = bootBuiltins x) (hlim : s₁.heap.NoLimit) (hg : s₁.gens = #[])
    (hT : ∀ p ∈ cs, s₁.heap.get? p.2 = some { cls := .none, data := .fields #[] }) (nT : ∀ p ∈ cs, K.lookup p.2 = none) (C : ∀ p ∈ cs, PySem.W.CodeHd s₁.heap p.1 p.2)
    (hbm : ∃ (bm : Addr) (ob : Obj), mg "__builtins__" = some (.ref bm) ∧ bm ≠ builtinsNs ∧ s₁.heap.get? bm = some ob ∧ ob.cls = .type "module" ∧ ob.dict = some builtinsNs ∧ ob.data = .plain)
    (ha : s₁.heap.get? a = some { cls := .type "list", data := .seq vs.toArray }) (hi : IntsAre vs ns) (hl : ns.length ≤ sizeLine) (hr : Room k callerA)
    (F : ∀ base : Heap, K.In base → base.Ns mainGlobals mg → (∀ p ∈ cs, TabB base mg p.1 p.2) → FnG P w K mg base CX0 k fa fd [x] sp) (hbind : ∀ (s : Shared) (u : Value), BindsTo s fd ⟨[u], []⟩ [(x, u)])
    (hsp : ∀ H : Hp, (∀ p ∈ cs, H p.2 = some (.tbl #[])) → SqL K H a (ns.map V.int) → sp [.ref a] H (fun v _ => v = .bl true) fun _ _ _ => False) :
    codeAny (model P w) callerA (.call (.ref fa) ⟨[.ref a], []⟩) (fun r s' => r = .ok (.ret (.bool true)) ∧ OldK s₁.heap s'.heap ∧ s'.os = s₁.os ∧ AllBare s'.gens) s₁ := by
  have rv := vals_ints hi
  have nlen := hi.length
  let ts := cs.map (·.2)
  have tabAt : ∀ b, b ∈ ts → s₁.heap.get? b = some { cls := .none, data := .fields #[] } ∧ K.lookup b = none := fun b hb => by
    obtain ⟨p, hp, rfl⟩ := List.mem_map.mp hb
    exact ⟨hT p hp, nT p hp⟩
  have inT : ∀ p ∈ cs, p.2 ∈ ts := fun p hp => List.mem_map.mpr ⟨p, hp, rfl⟩
  have aT : a ∉ ts := fun z => by
    have q := (tabAt a z).1
    rw [ha] at q
    exact absurd (congrArg Obj.data (Option.some.inj q)) (fun z => by cases z)
  let wr : Bool := (K.lookup a).isNone
  let H : Hp := h0 ts wr a { cls := .type "list", data := .seq vs.toArray } (ns.map V.int)
  -- the script is read
  have hS : SqL K H a (ns.map V.int) := by
    cases hk : K.lookup a with
    | none => exact .inl (.inr ⟨_, h0_at aT (by show (K.lookup a).isNone = true; rw [hk]; rfl)⟩)
    | some o =>
      have e := KX a o hk
      rw [ha] at e
      cases e
      exact .inr ⟨_, vs.toArray, _, hk, rfl, rfl, rfl, by rw [List.size_toArray, nlen]; exact hl, by simpa using rv⟩
  have hok : HOk P w H s₁.heap := fun b u e => by
    rcases h0_cases (ts := ts) (w := wr) (a := a) (o := { cls := .type "list", data := .seq vs.toArray }) (xs := ns.map V.int) b with ⟨h, q⟩ | ⟨_, _, rfl, q⟩ | ⟨_, _, q⟩
    · cases q.symm.trans e
      exact (tabAt b h).1
    · cases q.symm.trans e
      exact ⟨ha, by rw [List.length_map]; exact hl, vs, _, rv, ha⟩
    · cases q.symm.trans e
  -- an object that is neither a table nor the script is untracked
  have free : ∀ {b : Addr} {o : Obj}, s₁.heap.get? b = some o → o.data ≠ .fields #[] → (∀ us n, o.data ≠ .seq us n) → H b = none := fun {b o} e h1 h2 => by
    refine h0_none (fun z => ?_) (fun z => ?_)
    · rw [(tabAt b z).1] at e
      cases e
      exact h1 rfl
    · rw [z.2, ha] at e
      cases e
      exact h2 _ _ rfl
  have stay : ∀ {b : Addr} {o : Obj}, s₁.heap.get? b = some o → o.data ≠ .fields #[] → (∀ us n, o.data ≠ .seq us n) → (hidT s₁.heap H).get? b = some o := fun e h1 h2 => hidT_get e (free e h1 h2)
  have nsStay : ∀ {b : Addr} {m : Str → Option Value}, s₁.heap.Ns b m → (hidT s₁.heap H).Ns b m := fun {b m} ⟨o, es, ep, e, d, r⟩ => ⟨o, es, ep, stay e (fun z => by rw [d] at z; cases z) (fun _ _ z => by rw [d] at z; cases z), d, r⟩
  have KB : K.In (hidT s₁.heap H) := fun b o e => hidT_get (KX b o e) (by
    refine h0_none (fun z => ?_) (fun z => ?_)
    · rw [(tabAt b z).2] at e; cases e
    · have hw : (K.lookup a).isNone = true := z.1
      rw [z.2] at e
      rw [e] at hw; cases hw)
  have hM : L2.Mod K mg (hidT s₁.heap H) := by
    obtain ⟨mc, h1, h2⟩ := hlim
    exact ⟨KB, nsStay hns, ⟨mb, nsStay hb, hbb⟩, ⟨mc, nsStay h1, h2⟩⟩
  have TB : ∀ p ∈ cs, TabB (hidT s₁.heap H) mg p.1 p.2 := fun p hp => by
    have hTp := hT p hp
    refine ⟨?_, ?_, ?_⟩
    · obtain ⟨o, us, file, tf, flags, tg, inF, text, tt, e1, r1, r2, r3, r4, r5, r6, r7, r8, hne⟩ := C p hp
      exact ⟨o, us, file, tf, flags, tg, inF, text, tt, stay e1 (fun z => by rw [r2] at z; cases z; simp at r3) (fun _ _ z => by rw [r2] at z; cases z), r1, r2, r3, r4, r5, r6, r7, r8, hne⟩
    · obtain ⟨bm, ob, b1, b2, b3, b4, b5, b6⟩ := hbm
      refine ⟨bm, ob, b1, b2, fun q => ?_, fun q => ?_, stay b3 (fun z => by rw [b6] at z; cases z) (fun _ _ z => by rw [b6] at z; cases z), b4, b5, b6⟩
      · obtain ⟨o, es, ep, e, hd, _⟩ := hns
        rw [q, e] at b3
        cases b3
        rw [hd] at b6; cases b6
      · rw [q, hTp] at b3
        cases b3
        cases b6
    · intro z
      obtain ⟨o, es, ep, e, hd, _⟩ := hns
      rw [z, hTp] at e
      cases e
      cases hd
  have e0 : Env0 P w K mg (hidT s₁.heap H) callerA [] s₁ H := ⟨rfl, hM, fun b o e => of_hidT e, Nat.le_of_eq (hidT_size _ _), trivial, fun b z => absurd z (by simp [frs]), hok, .of_eq hg⟩
  refine codeAny_mono ((F _ KB (nsStay hns) TB).run callerA [] s₁ H ⟨[.ref a], []⟩ [.ref a] [.ref a] _ _ rfl hr e0 (hbind s₁ (.ref a)) (.cons rfl .nil) (hsp H (fun p hp => h0_tab (inT p hp)) hS)) fun r s' h => ?_
  cases r with
  | error e => exact (show False from h).elim
  | ok fl =>
    cases fl with
    | next => exact False.elim h
    | brk => exact False.elim h
    | cont => exact False.elim h
    | ret u =>
      obtain ⟨v, H', os, bare, un, hok', r', q⟩ := h
      obtain rfl : v = .bl true := q
      obtain rfl : u = Value.bool true := r'
      have kept : ∀ b o, b ∉ ts → s₁.heap.get? b = some o → s'.heap.get? b = some o := fun b o nb e => by
        rcases h0_cases (ts := ts) (w := wr) (a := a) (o := { cls := .type "list", data := .seq vs.toArray }) (xs := ns.map V.int) b with ⟨h, _⟩ | ⟨_, _, rfl, q⟩ | ⟨_, _, q⟩
        · exact absurd h nb
        · obtain ⟨e2, _⟩ := hok' b _ (un.frzs b _ _ q)
          rw [ha] at e
          rw [← e]; exact e2
        · exact un.keep b o e q (by simp [frs]) (by simp)
      have grown : ∀ p ∈ cs, ∃ more : Array Value, s'.heap.get? p.2 = some { cls := .none, data := .fields more } := fun p hp => by
        obtain ⟨more, z⟩ := un.tbls p.2 #[] (h0_tab (inT p hp))
        exact ⟨_, hok' p.2 _ z⟩
      refine ⟨rfl, ⟨fun b o e => ?_, fun b o e => ?_⟩, os, bare⟩
      · by_cases hbt : b ∈ ts
        · obtain ⟨p, hp, rfl⟩ := List.mem_map.mp hbt
          obtain ⟨more, hm⟩ := grown p hp
          rw [hT p hp] at e
          cases e
          exact .inr (.inl ⟨((C p hp).tab (hT p hp)).isCodeTable, rfl, #[], more, rfl, by rw [Array.empty_append]; exact hm⟩)
        · exact .inl (kept b o hbt e)
      · by_cases hbt : b ∈ ts
        · obtain ⟨p, hp, rfl⟩ := List.mem_map.mp hbt
          obtain ⟨more, hm⟩ := grown p hp
          exact ⟨_, hm⟩
        · exact ⟨o, kept b o hbt e⟩
end
theorem walk_ofG {l : PySem.W.OpenLaw} {n k : Nat} {q : Program} {loose : List Str} {XP : (Str → Option Value) → Heap → Prop} {YP : World → Heap → Prop} {d : DefRec} {x : Str}
    (hn : l.most = some n) (hn2 : n ≤ sizeLine) (hdf : d.params.defaults = []) (hr : Room k callerA)
    (F : ∀ (w : World) (mg : Str → Option Value) (fa : Addr) (h : Heap), YP w h → h.Ns mainGlobals mg → mg d.name = some (.ref fa) → ∃ K : PySem.W.Frag, K.In h ∧ LawG l w K k n x mg fa h) :
    PySem.W.WalkO q loose XP YP l.row.toRowW d [] (fun f vs => PySem.call f vs) := by
  refine Att.attach_callB hn hdf fun w s₀ s₁ mg mb fa o pm cd doc a vs ns G Y ho hd hcd hmg hobj hints hlen hbits hg => ?_
  obtain ⟨K, KX, fd, cs, sp, hT, nT, C, hb, hsp, hF⟩ := F w mg fa _ Y G.T.g hmg
  exact law_callG KX G.T.g G.T.b G.T.builtins G.T.nolimit hg hT nT C G.T.bmain hobj hints (Nat.le_trans hlen hn2) hr hF hb (fun H hH hS => hsp H a ns hlen hbits hH hS)
end Gd

namespace M66
open PySem PySem.Spec PyProof.Rows L2 SX Own Gd
open C8 (Cal pe_c pe_gc pe_mk Mak pss_cut)
/-! ### data shown -/
structure Shw (k W : Nat) (d : PyData) : Prop where
  s : d.showable = true
  n : d.hasDict = false
  p : d.depth ≤ k
  l : d.leavesShort 13 = true
  w : d.weight ≤ W
theorem Shw.mono {k W k' W' : Nat} {d : PyData} (h : Shw k W d) (h1 : k ≤ k') (h2 : W ≤ W') : Shw k' W' d := ⟨h.s, h.n, Nat.le_trans h.p h1, h.l, Nat.le_trans h.w h2⟩
theorem Shw.int {c : Int} (h : c.natAbs < 10 ^ 12) : Shw 0 40 (.int c) := by
  have g : c.natAbs.log2 < 40 := PySem.Flt.log2_lt_of (by decide) (Nat.lt_trans h (by decide))
  refine ⟨?_, ?_, ?_, ?_, ?_⟩
  · simp only [PyData.showable]; exact decide_eq_true (by omega)
  · simp only [PyData.hasDict]
  · simp only [PyData.depth]; exact Nat.le_refl _
  · simp only [PyData.leavesShort]; exact decide_eq_true (PyData.shown_int_le h)
  · simp only [PyData.weight]; split <;> omega
theorem Shw.bool (b : Bool) : Shw 0 40 (.bool b) := by
  refine ⟨?_, ?_, ?_, ?_, ?_⟩ <;> simp [PyData.showable, PyData.hasDict, PyData.depth, PyData.leavesShort, PyData.weight]
theorem Shw.none : Shw 0 40 .none := by
  refine ⟨?_, ?_, ?_, ?_, ?_⟩ <;> simp [PyData.showable, PyData.hasDict, PyData.depth, PyData.leavesShort, PyData.weight]
theorem Shw.str {x : Str} (h1 : x.cps.size ≤ 40) (h2 : x.cps.toList.all (fun c => decide (c < 16 ^ 8)) = true) : Shw 0 40 (.str x) := by
  refine ⟨?_, ?_, ?_, ?_, ?_⟩
  · simp only [PyData.showable]
  · simp only [PyData.hasDict]
  · simp only [PyData.depth]; exact Nat.le_refl _
  · simp only [PyData.leavesShort]; exact h2
  · simp only [PyData.weight]; exact h1
theorem shwAll {k W : Nat} : ∀ {ds : List PyData}, (∀ d ∈ ds, Shw k W d) → PyData.showableAll ds = true ∧ PyData.hasDictAll ds = false ∧ PyData.depthAll ds ≤ k ∧ PyData.leavesShortAll 13 ds = true ∧ PyData.weightAll ds ≤ (W + 1) * ds.length
  | [], _ => by simp [PyData.showableAll, PyData.hasDictAll, PyData.depthAll, PyData.leavesShortAll, PyData.weightAll]
  | d :: ds, h => by
    obtain ⟨h1, h2, h3, h4, h5⟩ := shwAll (ds := ds) fun x hx => h x (List.mem_cons_of_mem _ hx)
    obtain ⟨g1, g2, g3, g4, g5⟩ := h d (List.mem_cons_self ..)
    refine ⟨?_, ?_, ?_, ?_, ?_⟩
    · simp only [PyData.showableAll, g1, h1, Bool.and_true]
    · simp only [PyData.hasDictAll, g2, h2, Bool.or_false]
    · simp only [PyData.depthAll]; omega
    · simp only [PyData.leavesShortAll, g4, h4, Bool.and_true]
    · simp only [PyData.weightAll, List.length_cons, Nat.mul_add]; omega
theorem Shw.tup {k W n : Nat} {ds : List PyData} (h : ∀ d ∈ ds, Shw k W d) (l : ds.length ≤ n) : Shw (k + 1) ((W + 1) * n) (.tuple ds) := by
  obtain ⟨h1, h2, h3, h4, h5⟩ := shwAll h
  refine ⟨?_, ?_, ?_, ?_, ?_⟩
  · simp only [PyData.showable, h1]
  · simp only [PyData.hasDict, h2]
  · simp only [PyData.depth]; omega
  · simp only [PyData.leavesShort, h4]
  · simp only [PyData.weight]
    exact Nat.le_trans h5 (Nat.mul_le_mul_left _ l)
/-- repr of a tuple, a number or None -/
def rShowX (K : PySem.W.Frag) : List V → Hp → VK → Prop := fun xs H Q => ∃ v d, xs = [v] ∧ Dp K H v d ∧ Shw 60 1000000 d ∧ ((∃ a, v = .ref a) ∨ v = .non ∨ ∃ i, v = .int i) ∧ Q (.str d.shown) H
theorem call_showX {X : Cx} (hgd : X.A.guards = some []) (hu : X.A.units + 64 < cLine) : CallR X (.builtin "repr") (rShowX X.K) := by
  intro pins s σ H xs us Q I r h
  obtain ⟨v, d, rfl, dp, sh, hv, q⟩ := h
  rcases hv with ⟨a, rfl⟩ | rfl | ⟨i, rfl⟩
  · exact call_show hgd hu pins s σ H _ us Q I r ⟨a, d, rfl, dp, sh.s, sh.n, sh.p, PyData.shown_fits (B := 13) (by decide) (by decide) sh.l (Nat.le_trans sh.w (by decide)), q⟩
  · cases dp
    obtain ⟨u, rfl, r1⟩ := vals1 r
    cases (show u = Value.none from r1)
    exact PySem.P.repr_of_none ⟨.str "None", H, I.tok _, ⟨_, rfl⟩, q⟩
  · cases dp
    obtain ⟨u, rfl, t, rfl⟩ := vals1 r
    have := sh.s
    simp only [PyData.showable] at this
    exact PySem.P.repr_of_int (of_decide_eq_true this) ⟨.str _, H, I.tok _, ⟨_, rfl⟩, q⟩
def dI (a : List Int) : PyData := .tuple (a.map PyData.int)
def dRow (r : Row) : PyData := .tuple [.str "sum", dI r.am, .bool r.eq, .int r.bd]
def dRows (rs : List Row) : PyData := .tuple (rs.map dRow)
def dWish : Wish → PyData
  | .sum r => dRow r
  | .either rs => .tuple [.str "either", dRows rs]
def dFr (f : Fr) : PyData := .tuple [.int f.1, .int f.2]
def dBox (b : List Fr) : PyData := .tuple (b.map dFr)
def dLf (k : Nat) : PyData := .tuple [.str "shut", .int k]
def dDw (k : Nat) (d : Dw) : PyData := .tuple [.int d.1, .int d.2.1, .int d.2.2, dLf k]
def dDrs (k : Nat) (ds : List Dw) : PyData := .tuple (ds.map (dDw k))
def dNo (k : Nat) : PyData := .tuple [.str "leaf", dLf k]
section
variable {K : PySem.W.Frag} {H : Hp}
theorem dpAll2 {α : Type} {R : V → α → Prop} {f : α → PyData} (h : ∀ v a, R v a → Dp K H v (f a)) : ∀ {us : List V} {as : List α}, All2 R us as → DpAll K H us (as.map f)
  | _, _, .nil => .nil
  | _, _, .cons g t => .cons (h _ _ g) (dpAll2 h t)
theorem dpAllI : ∀ a : List Int, DpAll K H (a.map V.int) (a.map PyData.int)
  | [] => .nil
  | c :: a => .cons (.int c) (dpAllI a)
theorem dpI {v : V} {a : List Int} (h : LV H v a) : Dp K H v (dI a) := by
  obtain ⟨q, rfl, e⟩ := h
  exact .tup (sq_tup e) (dpAllI a)
theorem dpRow {v : V} {r : Row} (h : RV H v r) : Dp K H v (dRow r) := by
  obtain ⟨p, q, rfl, e, g⟩ := h
  exact .tup (sq_tup e) (.cons (.str _) (.cons (dpI ⟨q, rfl, g⟩) (.cons (.bl _) (.cons (.int _) .nil))))
theorem dpRows {v : V} {rs : List Row} (h : RsV H v rs) : Dp K H v (dRows rs) := by
  obtain ⟨p, us, rfl, e, g⟩ := h
  exact .tup (sq_tup e) (dpAll2 (fun _ _ h => dpRow h) g)
theorem dpEi {v : V} {rs : List Row} (h : WV H v (.either rs)) : Dp K H v (dWish (.either rs)) := by
  obtain ⟨p, u, rfl, e, g⟩ := h
  exact .tup (sq_tup e) (.cons (.str _) (.cons (dpRows g) .nil))
theorem dpWish {v : V} {z : Wish} (h : WV H v z) : Dp K H v (dWish z) := by
  cases z with
  | sum r => exact dpRow h
  | either rs => exact dpEi h
theorem dpWs : ∀ {us : List V} {wl : List Wish}, WVs H us wl → DpAll K H us (wl.map dWish)
  | _, _, .nil => .nil
  | _, _, .cons g t => .cons (dpWish g) (dpWs t)
theorem dpFr {v : V} {f : Fr} (h : FV H v f) : Dp K H v (dFr f) := by
  obtain ⟨p, rfl, e⟩ := h
  exact .tup (sq_tup e) (.cons (.int _) (.cons (.int _) .nil))
theorem dpBox {v : V} {b : List Fr} (h : SV H v b) : Dp K H v (dBox b) := by
  obtain ⟨p, us, rfl, e, g⟩ := h
  exact .tup (sq_tup e) (dpAll2 (fun _ _ h => dpFr h) g)
theorem dpLf {v : V} {k : Nat} (h : LeafV H v k) : Dp K H v (dLf k) := by
  obtain ⟨q, rfl, e⟩ := h
  exact .tup (sq_tup e) (.cons (.str _) (.cons (.int _) .nil))
theorem dpDrs {v : V} {k : Nat} {ds : List Dw} (h : DrsV H v k ds) : Dp K H v (dDrs k ds) := by
  obtain ⟨p, us, rfl, e, g⟩ := h
  refine .tup (sq_tup e) (dpAll2 (fun v d h => ?_) g)
  obtain ⟨q, lv, rfl, e, l⟩ := h
  exact .tup (sq_tup e) (.cons (.int _) (.cons (.int _) (.cons (.int _) (.cons (dpLf l) .nil))))
theorem dpNo {v : V} {k : Nat} (h : NoV H v k) : Dp K H v (dNo k) := by
  obtain ⟨p, lv, rfl, e, l⟩ := h
  exact .tup (sq_tup e) (.cons (.str _) (.cons (dpLf l) .nil))
end
def Sh12 (c : Int) : Prop := c.natAbs < 10 ^ 12
theorem shI {a : List Int} (h : ∀ c ∈ a, Sh12 c) (l : a.length ≤ 100) : Shw 1 4100 (dI a) :=
  Shw.tup (W := 40) (n := 100) (fun d hd => by
    obtain ⟨c, hc, rfl⟩ := List.mem_map.mp hd
    exact Shw.int (h c hc)) (by rw [List.length_map]; exact l)
theorem shCons {k W : Nat} {P : PyData → Prop} {d : PyData} {ds : List PyData} (h : P d) (t : ∀ x ∈ ds, P x) : ∀ x ∈ d :: ds, P x := fun x hx => by
  rcases List.mem_cons.mp hx with e | e
  · rw [e]; exact h
  · exact t x e
theorem shSum : Shw 0 40 (.str "sum") := Shw.str (by decide) (by decide)
theorem shEi : Shw 0 40 (.str "either") := Shw.str (by decide) (by decide)
theorem shLeaf : Shw 0 40 (.str "leaf") := Shw.str (by decide) (by decide)
theorem shShut : Shw 0 40 (.str "shut") := Shw.str (by decide) (by decide)
theorem shRow {n : Nat} {r : Row} (h : RBd n r) (l : n ≤ 100) : Shw 2 (4101 * 4) (dRow r) :=
  Shw.tup (k := 1) (W := 4100) (n := 4) (by
    refine shCons (k := 0) (W := 0) (shSum.mono (by decide) (by decide)) (shCons (k := 0) (W := 0) (shI (fun c hc => Nat.lt_of_le_of_lt (h.am c hc) (by decide)) (by rw [h.len]; exact l)) (shCons (k := 0) (W := 0) ((Shw.bool _).mono (by decide) (by decide)) (shCons (k := 0) (W := 0) ((Shw.int (Nat.lt_of_le_of_lt h.bd (by decide))).mono (by decide) (by decide)) (fun x hx => by cases hx))))) (by show 4 ≤ 4; decide)
theorem shRows {n : Nat} {rs : List Row} (h : ∀ r ∈ rs, RBd n r) (l : n ≤ 100) (l6 : rs.length ≤ 6) : Shw 3 (16405 * 6) (dRows rs) :=
  Shw.tup (k := 2) (W := 16404) (n := 6) (fun d hd => by
    obtain ⟨r, hr, rfl⟩ := List.mem_map.mp hd
    exact shRow (h r hr) l) (by rw [List.length_map]; exact l6)
theorem shWish {n : Nat} {z : Wish} (h : WBd n z) (l : n ≤ 100) : Shw 4 (98431 * 2) (dWish z) := by
  cases z with
  | sum r => exact (shRow h l).mono (by decide) (by decide)
  | either rs => exact Shw.tup (k := 3) (W := 98430) (n := 2) (shCons (k := 0) (W := 0) (shEi.mono (by decide) (by decide)) (shCons (k := 0) (W := 0) ((shRows h.2 l h.1).mono (by decide) (by decide)) (fun x hx => by cases hx))) (by show 2 ≤ 2; decide)
theorem shWs {n : Nat} {wl : List Wish} (h : ∀ z ∈ wl, WBd n z) (l : n ≤ 100) (l5 : wl.length ≤ 5) : Shw 60 1000000 (.tuple (wl.map dWish)) :=
  (Shw.tup (k := 4) (W := 196862) (n := 5) (fun d hd => by
    obtain ⟨r, hr, rfl⟩ := List.mem_map.mp hd
    exact shWish (h r hr) l) (by rw [List.length_map]; exact l5)).mono (by decide) (by decide)
def BxS (b : List Fr) : Prop := ∀ f ∈ b, Sh12 f.1 ∧ Sh12 f.2
theorem shBox {b : List Fr} (h : BxS b) (l : b.length ≤ 100) : Shw 60 1000000 (dBox b) :=
  (Shw.tup (k := 1) (W := 82) (n := 100) (fun d hd => by
    obtain ⟨f, hf, rfl⟩ := List.mem_map.mp hd
    exact Shw.tup (k := 0) (W := 40) (n := 2) (shCons (k := 0) (W := 0) (Shw.int (h f hf).1) (shCons (k := 0) (W := 0) (Shw.int (h f hf).2) (fun x hx => by cases hx))) (by show 2 ≤ 2; decide)) (by rw [List.length_map]; exact l)).mono (by decide) (by decide)
theorem shLf {k : Nat} (h : k ≤ 1000) : Shw 1 82 (dLf k) :=
  Shw.tup (k := 0) (W := 40) (n := 2) (shCons (k := 0) (W := 0) shShut (shCons (k := 0) (W := 0) (Shw.int (Nat.lt_of_le_of_lt (show ((k : Nat) : Int).natAbs ≤ 1000 by omega) (by decide))) (fun x hx => by cases hx))) (by show 2 ≤ 2; decide)
theorem shNo {k : Nat} (h : k ≤ 1000) : Shw 60 1000000 (dNo k) :=
  (Shw.tup (k := 1) (W := 82) (n := 2) (shCons (k := 0) (W := 0) (shLeaf.mono (by decide) (by decide)) (shCons (k := 0) (W := 0) (shLf h) (fun x hx => by cases hx))) (by show 2 ≤ 2; decide)).mono (by decide) (by decide)
def DwS (d : Dw) : Prop := Sh12 d.1 ∧ Sh12 d.2.1 ∧ Sh12 d.2.2
theorem shDrs {k : Nat} {ds : List Dw} (h : k ≤ 1000) (hd : ∀ d ∈ ds, DwS d) (l : ds.length ≤ 200) : Shw 60 1000000 (dDrs k ds) :=
  (Shw.tup (k := 2) (W := 332) (n := 200) (fun d hd' => by
    obtain ⟨f, hf, rfl⟩ := List.mem_map.mp hd'
    obtain ⟨h1, h2, h3⟩ := hd f hf
    exact Shw.tup (k := 1) (W := 82) (n := 4) (shCons (k := 0) (W := 0) ((Shw.int h1).mono (by decide) (by decide)) (shCons (k := 0) (W := 0) ((Shw.int h2).mono (by decide) (by decide)) (shCons (k := 0) (W := 0) ((Shw.int h3).mono (by decide) (by decide)) (shCons (k := 0) (W := 0) (shLf h) (fun x hx => by cases hx))))) (by show 4 ≤ 4; decide)) (by rw [List.length_map]; exact l)).mono (by decide) (by decide)
end M66

namespace M66
open PySem PySem.Spec PyProof.Rows L2 SX Own Gd
open C8 (Cal pe_c pe_gc pe_mk Mak pss_cut)
/-! ### the draws that are due -/
section
variable {P : Program} {w : World} {K : PySem.W.Frag} {mg : Str → Option Value} {base : Heap} {aW aT : Addr} {es : Array DictEntry} {nn : Nat}
abbrev s_Ldue_draws : Stmt := topS 55
abbrev n_Ldue_draws : List Str := ["box", "least", "number", "found", "at"]
theorem sc_Ldue_draws : FnScope n_Ldue_draws ["box", "least", "number"] (defScope s_Ldue_draws) := ⟨rfl, rfl, rfl, by decide +kernel, rfl, by decide +kernel, by decide +kernel⟩
def spDue : Sp := fun vs H Q _ => ∃ (b lv : V) (box B : List Fr) (k : Nat), vs = [b, lv, .int k] ∧ SV H b box ∧ SV H lv B ∧ B.length = box.length ∧ box.length ≤ 100 ∧ (∀ (i : Nat) p q, box[i]? = some p → B[i]? = some q → p.1 ≤ q.1 ∧ q.2 ≤ p.2) ∧
  ∀ H' v, Same H H' → DrsV H' v k (drawsU box B box.length) → Q v H'
theorem ok_Ldue_draws {f : Addr} {fd : FuncData} (F : Fun K "_law_due_draws" "_law_due_draws" s_Ldue_draws f fd) (T : Txt K mg w aW aT es nn) : FnOk P w K mg base CX0 1 f fd ["box", "least", "number"] spDue := by
  refine F.ok sc_Ldue_draws (fun vs H Q E h => ?_) (fun cdv A outer s H vs Q E hr h => ?_)
  · obtain ⟨b, lv, box, B, k, rfl, _⟩ := h
    rfl
  · obtain ⟨b, lv, box, B, k, rfl, ⟨pb, bs, rfl, hpb, alb⟩, ⟨pB, Bs, rfl, hpB, alB⟩, lBb, l100, sub, fin⟩ := h
    have lb := alb.len
    have lB := alB.len
    refine ⟨_, (pss_cons (ps_set (i := 3) sc_Ldue_draws.nd rfl (.inl rfl) (pe_lst pa_nil))
      (pss_cons (ps_for PassesOwn.never rfl (pi_range1 (by rfl) T.b_range (pa_cons (pe_callB call_len_seq (by rfl) T.b_len (by decide +kernel) (pa_cons (pv 0) pa_nil)) pa_nil)) (pg_name (i := 4) sc_Ldue_draws.nd rfl (.inl rfl)) (pss_cut (ps_if (pt_cmpR op_lt (pe_ix ix_tup (pe_ix ix_tup (pv 0) (pv 4) (fun _ _ => rfl)) pe_int (fun _ _ => rfl)) (pe_ix ix_tup (pe_ix ix_tup (pv 1) (pv 4) (fun _ _ => rfl)) pe_int (fun _ _ => rfl)) (nomark _)) (pss_one (ps_expr (pe_bm PySem.F.plainAttrs_list PySem.F.slot_list_append PySem.F.type_list_append mt_append (pv 3) (pa_cons (pe_tup (pa_cons (pv 4) (pa_cons pe_int (pa_cons (pe_ix ix_tup (pe_ix ix_tup (pv 1) (pv 4) (fun _ _ => rfl)) pe_int (fun _ _ => rfl)) (pa_cons (pe_tup (pa_cons pe_str (pa_cons (pv 2) pa_nil))) pa_nil))))) pa_nil)))) pss_nil)
        (pss_one (ps_if (pt_cmpR op_lt (pe_ix ix_tup (pe_ix ix_tup (pv 1) (pv 4) (fun _ _ => rfl)) pe_int (fun _ _ => rfl)) (pe_ix ix_tup (pe_ix ix_tup (pv 0) (pv 4) (fun _ _ => rfl)) pe_int (fun _ _ => rfl)) (nomark _)) (pss_one (ps_expr (pe_bm PySem.F.plainAttrs_list PySem.F.slot_list_append PySem.F.type_list_append mt_append (pv 3) (pa_cons (pe_tup (pa_cons (pv 4) (pa_cons pe_int (pa_cons (pe_ix ix_tup (pe_ix ix_tup (pv 1) (pv 4) (fun _ _ => rfl)) pe_int (fun _ _ => rfl)) (pa_cons (pe_tup (pa_cons pe_str (pa_cons (pv 2) pa_nil))) pa_nil))))) pa_nil)))) pss_nil))))
      (pss_one (ps_ret (pe_callTy call_tuple_of (by rfl) T.b_tuple (by decide +kernel) (pa_cons (pv 3) pa_nil)))))), ?_⟩
    refine ⟨nil_ok, fun L nL => ?_⟩
    have kL := same_upd (o := .lst []) nL
    have eL : upd H L (.lst []) L = some (.lst []) := upd_same
    generalize upd H L (.lst []) = H1 at *
    refine ⟨_, rfl, pb, _, rfl, .inr (sq_tup (kL _ _ hpb)), _, rfl, by omega, by omega, for_range (lo := 0) (n := ((bs.length : Nat) : Int).toNat) (fun i σ H' => ∃ (us : List V) (y4 : Option V), σ = [some (.ref pb), some (.ref pB), some (.int (k : Nat)), some (.ref L), y4] ∧ H' L = some (.lst us) ∧ All2 (DwV H' k) us (drawsU box B i) ∧ Same H H')
      ⟨[], none, rfl, eL, .nil, kL⟩ (fun i σ H2 hi hI => ?_) (fun σ H2 hI => ?_)⟩
    · obtain ⟨us, y4, rfl, eL2, al, s2⟩ := hI
      rw [Int.toNat_natCast] at hi
      rw [show ((0 : Int) + (i : Nat)) = (i : Int) by omega]
      have ep : box[i]? = some (box[i]'(by omega)) := List.getElem?_eq_getElem _
      have eq : B[i]? = some (B[i]'(by omega)) := List.getElem?_eq_getElem _
      have sb := sub i _ _ ep eq
      have ed : drawsU box B (i + 1) = drawsU box B i ++ sdN i (box[i]'(by omega)) (B[i]'(by omega)) 2 := by
        show drawsU box B i ++ sdN i (box.getD i (0, 0)) (B.getD i (0, 0)) 2 = _
        rw [List.getD_eq_getElem?_getD, List.getD_eq_getElem?_getD, ep, eq]; rfl
      have u1 := drawsU_len (box := box) (B := B) i
      generalize box[i]'(by omega) = p at *
      generalize B[i]'(by omega) = r at *
      obtain ⟨u, hu, pp, rfl, hpp⟩ := alb.at2 ep
      obtain ⟨v, hv, qq, rfl, hqq⟩ := alB.at2 eq
      have u2 := sdN_len (i := i) (p := p) (q := r)
      -- one side
      have push : ∀ (s : Nat) (us : List V) (H3 : Hp), s < 2 → Same H H3 → H3 L = some (.lst us) → All2 (DwV H3 k) us (drawsU box B i ++ sdN i p r s) → sel p s ≠ sel r s → ∀ lf, H3 lf = none → ∀ dn, upd H3 lf (.tup [.str "shut", .int (k : Nat)]) dn = none →
          upd (upd H3 lf (.tup [.str "shut", .int (k : Nat)])) dn (.tup [.int (i : Nat), .int (s : Nat), .int (sel r s), .ref lf]) L = some (.lst us) ∧ us.length < sizeLine ∧
          (upd (upd (upd H3 lf (.tup [.str "shut", .int (k : Nat)])) dn (.tup [.int (i : Nat), .int (s : Nat), .int (sel r s), .ref lf])) L (.lst (us ++ [.ref dn]))) L = some (.lst (us ++ [.ref dn])) ∧
          All2 (DwV (upd (upd (upd H3 lf (.tup [.str "shut", .int (k : Nat)])) dn (.tup [.int (i : Nat), .int (s : Nat), .int (sel r s), .ref lf])) L (.lst (us ++ [.ref dn]))) k) (us ++ [.ref dn]) (drawsU box B i ++ sdN i p r (s + 1)) ∧
          Same H (upd (upd (upd H3 lf (.tup [.str "shut", .int (k : Nat)])) dn (.tup [.int (i : Nat), .int (s : Nat), .int (sel r s), .ref lf])) L (.lst (us ++ [.ref dn]))) := fun s us H3 hs s3 e3 a3 ne lf nlf dn ndn => by
        have k1 := same_upd (o := .tup [.str "shut", .int (k : Nat)]) nlf
        have e1 : upd H3 lf (.tup [.str "shut", .int (k : Nat)]) lf = some (.tup [.str "shut", .int (k : Nat)]) := upd_same
        generalize upd H3 lf (.tup [.str "shut", .int (k : Nat)]) = H4 at *
        have k2 := same_upd (o := .tup [.int (i : Nat), .int (s : Nat), .int (sel r s), .ref lf]) ndn
        have e2 : upd H4 dn (.tup [.int (i : Nat), .int (s : Nat), .int (sel r s), .ref lf]) dn = some (.tup [.int (i : Nat), .int (s : Nat), .int (sel r s), .ref lf]) := upd_same
        generalize upd H4 dn (.tup [.int (i : Nat), .int (s : Nat), .int (sel r s), .ref lf]) = H5 at *
        have k12 := k1.trans k2
        have e5 := k12 _ _ e3
        have tk : TK H5 (upd H5 L (.lst (us ++ [.ref dn]))) := TK.put e5
        have la := a3.len
        have u3 := u2 s
        rw [List.length_append] at la
        have es : sd1 i s p r = [((i : Int), (s : Int), sel r s)] := by unfold sd1; rw [if_neg ne]
        refine ⟨e5, small1000 (by omega), upd_same, ?_, same_at (s3.trans k12) nL⟩
        show All2 _ _ (drawsU box B i ++ (sdN i p r s ++ sd1 i s p r))
        rw [es, ← List.append_assoc]
        exact (a3.mono fun v d g => g.tk ((TK.of k12).trans tk)).app ⟨dn, .ref lf, rfl, tk _ _ e2, lf, rfl, tk _ _ (k2 _ _ e1)⟩
      have skip : ∀ (s : Nat) (us : List V) (H3 : Hp), All2 (DwV H3 k) us (drawsU box B i ++ sdN i p r s) → sel p s = sel r s → All2 (DwV H3 k) us (drawsU box B i ++ sdN i p r (s + 1)) := fun s us H3 a3 e => by
        show All2 _ _ (drawsU box B i ++ (sdN i p r s ++ sd1 i s p r))
        have es : sd1 i s p r = [] := by unfold sd1; rw [if_pos e]
        rw [es, List.append_nil]
        exact a3
      have atp := atI_nat hu
      have atr := atI_nat hv
      refine ⟨fun σ H' => ∃ us, σ = [some (.ref pb), some (.ref pB), some (.int (k : Nat)), some (.ref L), some (.int (i : Nat))] ∧ H' L = some (.lst us) ∧ All2 (DwV H' k) us (drawsU box B i ++ sdN i p r 1) ∧ Same H H', ?_, fun σ H3 hM => ?_⟩
      · refine ⟨_, rfl, _, rfl, pb, _, (i : Int), .ref pp, rfl, rfl, sq_tup (s2 _ _ hpb), atp, pp, _, 0, _, rfl, rfl, sq_tup (s2 _ _ hpp), rfl, _, rfl, _, rfl, pB, _, (i : Int), .ref qq, rfl, rfl, sq_tup (s2 _ _ hpB), atr, qq, _, 0, _, rfl, rfl, sq_tup (s2 _ _ hqq), rfl, _, _, rfl, rfl, _, rfl, ite2 (fun z => ?_) (fun z => ?_)⟩
        · have z : p.1 < r.1 := of_decide_eq_true z
          refine ⟨_, rfl, .inl ⟨rfl, _, sq_lst eL2⟩, _, rfl, _, rfl, _, rfl, pB, _, (i : Int), .ref qq, rfl, rfl, sq_tup (s2 _ _ hpB), atr, qq, _, 0, _, rfl, rfl, sq_tup (s2 _ _ hqq), rfl, _, rfl, len2, fun lf nlf => ⟨(by show 4 ≤ sizeLine; decide), fun dn ndn => ?_⟩⟩
          obtain ⟨g1, g2, g3, g4, g5⟩ := push 0 us H2 (by decide) s2 eL2 (by rw [show sdN i p r 0 = [] from rfl, List.append_nil]; exact al) (by show p.1 ≠ r.1; omega) lf nlf dn ndn
          exact ⟨L, _, _, rfl, rfl, g1, g2, _, rfl, g3, g4, g5⟩
        · have z : ¬ p.1 < r.1 := fun e => z (decide_eq_true e)
          exact ⟨us, rfl, eL2, skip 0 us H2 (by rw [show sdN i p r 0 = [] from rfl, List.append_nil]; exact al) (by show p.1 = r.1; omega), s2⟩
      · obtain ⟨us, rfl, eL3, al3, s3⟩ := hM
        refine ⟨_, rfl, _, rfl, pB, _, (i : Int), .ref qq, rfl, rfl, sq_tup (s3 _ _ hpB), atr, qq, _, 1, _, rfl, rfl, sq_tup (s3 _ _ hqq), rfl, _, rfl, _, rfl, pb, _, (i : Int), .ref pp, rfl, rfl, sq_tup (s3 _ _ hpb), atp, pp, _, 1, _, rfl, rfl, sq_tup (s3 _ _ hpp), rfl, _, _, rfl, rfl, _, rfl, ite2 (fun z => ?_) (fun z => ?_)⟩
        · have z : r.2 < p.2 := of_decide_eq_true z
          refine ⟨_, rfl, .inl ⟨rfl, _, sq_lst eL3⟩, _, rfl, _, rfl, _, rfl, pB, _, (i : Int), .ref qq, rfl, rfl, sq_tup (s3 _ _ hpB), atr, qq, _, 1, _, rfl, rfl, sq_tup (s3 _ _ hqq), rfl, _, rfl, len2, fun lf nlf => ⟨(by show 4 ≤ sizeLine; decide), fun dn ndn => ?_⟩⟩
          obtain ⟨g1, g2, g3, g4, g5⟩ := push 1 us H3 (by decide) s3 eL3 al3 (by show p.2 ≠ r.2; omega) lf nlf dn ndn
          exact ⟨L, _, _, rfl, rfl, g1, g2, _, _, rfl, g3, by rw [ed]; exact g4, g5⟩
        · have z : ¬ r.2 < p.2 := fun e => z (decide_eq_true e)
          exact ⟨us, _, rfl, eL3, by rw [ed]; exact skip 1 us H3 al3 (by show p.2 = r.2; omega), s3⟩
    · obtain ⟨us, y4, rfl, eL2, al, s2⟩ := hI
      rw [Int.toNat_natCast, lb] at al
      refine ⟨_, rfl, L, _, rfl, .inl ⟨sq_lst eL2, fun l nl => ?_⟩⟩
      have kl := same_upd (o := .tup us) nl
      exact fin _ (.ref l) (s2.trans kl) ⟨l, us, rfl, upd_same, al.mono fun v d g => g.tk (.of kl)⟩
end
end M66

namespace M66
open PySem PySem.Spec PyProof.Rows L2 SX Own Gd
open C8 (Cal pe_c pe_gc pe_mk Mak pss_cut)
/-! ### what is told is right -/
section
variable {P : Program} {w : World} {K : PySem.W.Frag} {mg : Str → Option Value} {base : Heap} {aW aT : Addr} {es : Array DictEntry} {nn : Nat}
abbrev s_Lpoint_right : Stmt := topS 59
abbrev n_Lpoint_right : List Str := ["sums", "box", "point", "at"]
theorem sc_Lpoint_right : FnScope n_Lpoint_right ["sums", "box", "point"] (defScope s_Lpoint_right) := ⟨rfl, rfl, rfl, by decide +kernel, rfl, by decide +kernel, by decide +kernel⟩
def spPtRight : Sp := fun vs H Q _ => ∃ (sv b pv : V) (rs : List Row) (box : List Fr) (x : List Int), vs = [sv, b, pv] ∧ RsV H sv rs ∧ SV H b box ∧ LV H pv x ∧ InB x box ∧ box.length ≤ 100 ∧ RsOk rs box.length ∧ keptF rs x = true ∧ ∀ H', Same H H' → Q (.bl true) H'
theorem ok_Lpoint_right {f : Addr} {fd : FuncData} (F : Fun K "_law_point_right" "_law_point_right" s_Lpoint_right f fd) (T : Txt K mg w aW aT es nn) (c_Lkept : Cal P w K mg base 2 "_law_kept" spKept []) : FnOk P w K mg base CX0 3 f fd ["sums", "box", "point"] spPtRight := by
  refine F.ok sc_Lpoint_right (fun vs H Q E h => ?_) (fun cdv A outer s H vs Q E hr h => ?_)
  · obtain ⟨sv, b, pv, rs, box, x, rfl, _⟩ := h
    rfl
  · obtain ⟨sv, b, pv, rs, box, x, rfl, rv, ⟨pb, bs, rfl, hpb, alb⟩, ⟨px, rfl, hpx⟩, inb, l100, ok, kept, fin⟩ := h
    have lb := alb.len
    have lx := inb.len
    refine ⟨_, (pss_cons (ps_if (PW.pt (pw_or (pt_not (pt_val (pe_callB call_isE (by rfl) T.b_isinstance (by decide +kernel) (pa_cons (pv 2) (pa_cons (pe_bltn (v := .ty "tuple") (by rfl) T.b_tuple boot_tuple rfl) pa_nil))))) (pw_or1 (pt_cmpR op_ne (pe_callB call_len_seq (by rfl) T.b_len (by decide +kernel) (pa_cons (pv 2) pa_nil)) (pe_callB call_len_seq (by rfl) T.b_len (by decide +kernel) (pa_cons (pv 1) pa_nil)) (nomark _))))) (pss_one (ps_ret pe_bl)) pss_nil)
      (pss_cons (ps_for PassesOwn.never rfl (pi_range1 (by rfl) T.b_range (pa_cons (pe_callB call_len_seq (by rfl) T.b_len (by decide +kernel) (pa_cons (pv 1) pa_nil)) pa_nil)) (pg_name (i := 3) sc_Lpoint_right.nd rfl (.inl rfl)) (pss_one (ps_if (PW.pt (pw_or (pt_not (pt_val (pe_callB call_isE (by rfl) T.b_isinstance (by decide +kernel) (pa_cons (pe_ix ix_tup (pv 2) (pv 3) (fun _ _ => rfl)) (pa_cons (pe_bltn (v := .ty "int") (by rfl) T.b_int boot_int rfl) pa_nil))))) (pw_or (pt_val (pe_callB call_isE (by rfl) T.b_isinstance (by decide +kernel) (pa_cons (pe_ix ix_tup (pv 2) (pv 3) (fun _ _ => rfl)) (pa_cons (pe_bltn (v := .ty "bool") (by rfl) T.b_bool boot_bool rfl) pa_nil)))) (pw_or1 (pt_not (pt_chain op_le op_le (pe_ix ix_tup (pe_ix ix_tup (pv 1) (pv 3) (fun _ _ => rfl)) pe_int (fun _ _ => rfl)) (pe_ix ix_tup (pv 2) (pv 3) (fun _ _ => rfl)) (pe_ix ix_tup (pe_ix ix_tup (pv 1) (pv 3) (fun _ _ => rfl)) pe_int (fun _ _ => rfl)))))))) (pss_one (ps_ret pe_bl)) pss_nil)))
      (pss_one (ps_ret (pe_c c_Lkept hr (by decide) (by rfl) (pa_cons (pv 0) (pa_cons (pv 2) pa_nil))))))), ?_⟩
    refine ⟨_, rfl, .ref px, .type "tuple", "tuple", true, rfl, .base (.base (.tup hpx)), by rfl, true, rfl, iteF ?_⟩
    refine ⟨_, rfl, px, _, rfl, .inr (sq_tup hpx), _, rfl, pb, _, rfl, .inr (sq_tup hpb), rfl, _, rfl, ite2 (fun z => ?_) (fun _ => ?_)⟩
    · rw [List.length_map, lx, lb] at z
      simp at z
    refine ⟨_, rfl, pb, _, rfl, .inr (sq_tup hpb), _, rfl, by omega, by omega, for_range (lo := 0) (n := ((bs.length : Nat) : Int).toNat) (fun i σ H' => ∃ (y3 : Option V), σ = [some sv, some (.ref pb), some (.ref px), y3] ∧ H' = H) ⟨none, rfl, rfl⟩ (fun i σ H2 hi hI => ?_) (fun σ H2 hI => ?_)⟩
    · obtain ⟨y3, rfl, rfl⟩ := hI
      rw [Int.toNat_natCast] at hi
      rw [show ((0 : Int) + (i : Nat)) = (i : Int) by omega]
      have ep : box[i]? = some (box[i]'(by omega)) := List.getElem?_eq_getElem _
      have ex : x[i]? = some (x[i]'(by omega)) := List.getElem?_eq_getElem _
      have hin := inb.at_ ex ep
      generalize box[i]'(by omega) = p at *
      generalize x[i]'(by omega) = c at *
      obtain ⟨u, hu, pp, rfl, hpp⟩ := alb.at2 ep
      have atx : atI (x.map V.int) (i : Int) = some (.int c) := atI_nat (by rw [List.getElem?_map, ex]; rfl)
      have atb := atI_nat hu
      refine ⟨_, rfl, _, rfl, px, _, (i : Int), .int c, rfl, rfl, sq_tup hpx, atx, .int c, .type "int", "int", true, rfl, .base (.base (.int c)), by rfl, true, rfl, iteF ?_⟩
      refine ⟨_, rfl, _, rfl, px, _, (i : Int), .int c, rfl, rfl, sq_tup hpx, atx, .int c, .type "int", "bool", false, rfl, .base (.base (.int c)), by rfl, false, rfl, iteF ?_⟩
      refine ⟨_, rfl, _, rfl, pb, _, (i : Int), .ref pp, rfl, rfl, sq_tup hpb, atb, pp, _, 0, _, rfl, rfl, sq_tup hpp, rfl, _, rfl, _, rfl, px, _, (i : Int), .int c, rfl, rfl, sq_tup hpx, atx, _, _, rfl, rfl, _, rfl, ite2 (fun _ => ?_) (fun z => absurd (decide_eq_true hin.1) z)⟩
      exact ⟨_, rfl, _, rfl, pb, _, (i : Int), .ref pp, rfl, rfl, sq_tup hpb, atb, pp, _, 1, _, rfl, rfl, sq_tup hpp, rfl, _, _, rfl, rfl, _, rfl, ite2 (fun z => by rw [decide_eq_true hin.2] at z; cases z) (fun _ => ⟨_, rfl, rfl⟩)⟩
    · obtain ⟨y3, rfl, rfl⟩ := hI
      refine ⟨_, rfl, _, rfl, sv, .ref px, rs, x, rfl, rv, ⟨px, rfl, hpx⟩, by omega, by rw [lx]; exact ok, fun H' s' => ?_⟩
      rw [kept]
      exact fin _ s'
theorem natI_sh {rs : List Row} {box : List Fr} (l : rs.length ≤ 6) : ∀ c ∈ natI (opn rs box), Sh12 c := fun c hc => by
  obtain ⟨i, hi, rfl⟩ := List.mem_map.mp hc
  have := opn_lt hi
  exact Nat.lt_of_le_of_lt (show ((i : Nat) : Int).natAbs ≤ 6 by omega) (by decide)
theorem corner_sh {a : List Int} {box : List Fr} (h : BxS box) : ∀ c ∈ corner a box, Sh12 c := fun c hc => by
  obtain ⟨⟨x, p⟩, hp, rfl⟩ := List.mem_map.mp hc
  have hm := (List.of_mem_zip hp).2
  unfold cor
  dsimp only
  split
  · exact (h p hm).2
  · exact (h p hm).1
theorem due_RBd {n : Nat} {rs : List Row} {box : List Fr} (h : ∀ r ∈ rs, RBd n r) : ∀ r ∈ dueR rs box, RBd n r := fun r hr => by
  obtain ⟨i, hi, e⟩ := due_iff.mp hr
  exact h r (List.mem_of_getElem? hi)
theorem RowGd.rbd {n : Nat} {r : Row} (h : RowGd n r) : RBd n r := ⟨h.am, h.len, h.bd⟩
theorem TkE.tk_same {C : Addr} {H H' : Hp} {v : V} {n k : Nat} {rs : List Row} {ul : List Unk} {wl : List Wish} {goal : List Int} (t : TkE C H v n k rs ul wl goal) (s : Same H H') : TkE C H' v n k rs ul wl goal := ⟨same_tv t.tv s, t.lu, t.at_, t.few, t.k2, t.ok, t.wb, t.nx, t.z0⟩
theorem eqvAllI : ∀ a b : List Int, PyData.eqvAll (a.map PyData.int) (b.map PyData.int) = decide (a = b)
  | [], [] => by simp [PyData.eqvAll]
  | [], _ :: _ => by simp [PyData.eqvAll]
  | _ :: _, [] => by simp [PyData.eqvAll]
  | c :: a, d :: b => by
    simp only [List.map_cons, PyData.eqvAll, PyData.eqv, eqvAllI a b]
    by_cases h : c = d <;> by_cases h2 : a = b <;> simp [h, h2]
theorem eqvI (a b : List Int) : PyData.eqv (dI a) (dI b) = decide (a = b) := by
  unfold dI
  simp only [PyData.eqv, eqvAllI]
theorem layI : ∀ a : List Int, PyData.canLayAll0 (a.map PyData.int) = true
  | [] => by simp [PyData.canLayAll0]
  | c :: a => by simp [PyData.canLayAll0, PyData.canLay0, layI a]
theorem depI : ∀ a : List Int, PyData.depthAll (a.map PyData.int) ≤ 1
  | [] => by simp [PyData.depthAll]
  | c :: a => by
    have := depI a
    simp only [List.map_cons, PyData.depthAll, PyData.depth]; omega
theorem shpI (a : List Int) : SeqAt.shaped (dI a) = true := by
  have := depI a
  unfold SeqAt.shaped dI
  rw [Bool.and_eq_true]
  refine ⟨by simp only [PyData.canLay0]; exact layI a, decide_eq_true ?_⟩
  simp only [PyData.depth]; omega
def dPt (rs : List Row) (box : List Fr) : PyData := match dueR rs box with
  | [] => .none
  | r :: _ => dI (corner r.am box)
theorem pt_shown {K : PySem.W.Frag} {H : Hp} {v : V} {rs : List Row} {box : List Fr} (h : PtV H v rs box) (b : BxS box) (l : box.length ≤ 100) (ok : RsOk rs box.length) : Dp K H v (dPt rs box) ∧ Shw 60 1000000 (dPt rs box) ∧ ((∃ a, v = .ref a) ∨ v = .non ∨ ∃ i, v = .int i) := by
  unfold PtV at h
  unfold dPt
  split at h
  · next e =>
    try rw [e]
    rw [h]
    exact ⟨.non, Shw.none.mono (by decide) (by decide), .inr (.inl rfl)⟩
  · next r t e =>
    try rw [e]
    refine ⟨dpI h, (shI (corner_sh b) ?_).mono (by decide) (by decide), ?_⟩
    · unfold corner
      rw [List.length_map, List.length_zip]
      omega
    · obtain ⟨q, e, _⟩ := h
      exact .inl ⟨q, e⟩
theorem PtV.same {H H' : Hp} {v : V} {rs : List Row} {box : List Fr} (h : PtV H v rs box) (s : Same H H') : PtV H' v rs box := by
  unfold PtV at *
  split at h
  · next e => exact h
  · next r t e => exact h.same s
theorem LeftV.same {H H' : Hp} {v : V} {rs : List Row} (h : LeftV H v rs) (s : Same H H') : LeftV H' v rs := by
  match rs, h with
  | [], h => exact h
  | [r], h => exact RV.same h s
  | r :: r' :: t, h => exact WV.same (x := .either (r :: r' :: t)) h s
abbrev s_Lleft_right : Stmt := topS 60
abbrev n_Lleft_right : List Str := ["task", "number", "box", "opened", "sums", "kept", "left", "due", "point", "at"]
theorem sc_Lleft_right : FnScope n_Lleft_right ["task", "number", "box", "opened"] (defScope s_Lleft_right) := ⟨rfl, rfl, rfl, by decide +kernel, rfl, by decide +kernel, by decide +kernel⟩
def spLeftRight (C : Addr) : Sp := fun vs H Q _ => ∃ (tv b ov : V) (k : Nat) (rs : List Row) (ul : List Unk) (wl : List Wish) (goal : List Int) (box : List Fr), vs = [tv, .int k, b, ov] ∧ TkE C H tv box.length k rs ul wl goal ∧ SV H b box ∧ box.length ≤ 7 ∧ Bx box ∧ BxS box ∧ rs.length ≤ 6 ∧ LV H ov (natI (opn rs box)) ∧ ∀ H', Same H H' → Q (.bl true) H'
theorem ok_Lleft_right {f C CR : Addr} {fd : FuncData} (F : Fun K "_law_left_right" "_law_left_right" s_Lleft_right f fd) (T : Txt K mg w aW aT es nn) (cc : CC K C) (c_Lpoint_right : Cal P w K mg base 3 "_law_point_right" spPtRight []) (x_either_point : CalX P w K mg base 7 "either_point" (spPoint C CR))
    (k_open_sums_box_number_task : CalK P w K mg base 7 "open_sums" ["box", "number", "task"] List.reverse (spOpen C CR)) (k_either_left_box_number_task : CalK P w K mg base 7 "either_left" ["box", "number", "task"] List.reverse (spLeft C CR)) (k_either_point_box_number_task : CalK P w K mg base 7 "either_point" ["box", "number", "task"] List.reverse (spPoint C CR)) : FnG P w K mg base CX0 9 f fd ["task", "number", "box", "opened"] (spLeftRight C) := by
  refine fun_okG F sc_Lleft_right (fun vs H Q E h => ?_) (fun cdv A outer s H vs Q E hgd hr h => ?_)
  · obtain ⟨tv, b, ov, k, rs, ul, wl, goal, box, rfl, _⟩ := h
    rfl
  · obtain ⟨tv, b, ov, k, rs, ul, wl, goal, box, rfl, te, bv, l7, hb, bs, r6, lo, fin⟩ := h
    refine ⟨_, (pss_cons (ps_asg (pe_tup (pa_cons (pe_ix ix_tup (pe_ix ix_tup (pe_fld (pv 0) (by rfl)) (pv 1) (fun _ _ => rfl)) pe_int (fun _ _ => rfl)) (pa_cons (pe_callB (call_showX hgd hr.units) (by rfl) T.b_repr (by decide +kernel) (pa_cons (pe_fld (pv 0) (by rfl)) pa_nil)) pa_nil))) (pg_tup rfl (pgs_cons (pg_name (i := 4) sc_Lleft_right.nd rfl (.inr rfl)) (pgs_cons (pg_name (i := 5) sc_Lleft_right.nd rfl (.inl rfl)) pgs_nil))))
      (pss_cons (ps_if (pt_cmpR op_ne (pe_callB (call_showX hgd hr.units) (by rfl) T.b_repr (by decide +kernel) (pa_cons (pe_kw k_open_sums_box_number_task hr (by decide) (by rfl) (pk_cons (pv 2) (pk_cons (pv 1) (pk_cons (pv 0) pk_nil)))) pa_nil)) (pe_callB (call_showX hgd hr.units) (by rfl) T.b_repr (by decide +kernel) (pa_cons (pv 3) pa_nil)) (nomark _)) (pss_one (ps_ret pe_bl)) pss_nil)
      (pss_cons (ps_par (i := 6) (j := 7) (by rfl) sc_Lleft_right.nd rfl rfl (by decide) rfl rfl (pa_cons (pe_kw k_either_left_box_number_task hr (by decide) (by rfl) (pk_cons (pv 2) (pk_cons (pv 1) (pk_cons (pv 0) pk_nil)))) (pa_cons (pe_callTy call_tuple_of (by rfl) T.b_tuple (by decide +kernel) (pa_cons (pe_lc (own := [("at", 9)]) rfl sc_Lleft_right.nd (pi_tup (pv 3)) (blkOk_by (N := n_Lleft_right) (sc := defScope s_Lleft_right) (by decide +kernel)) (fun _ _ _ _ _ => (pg_name (i := 9) sc_Lleft_right.nd rfl (.inl rfl))) (fun _ _ _ _ _ => pts_nil) (fun _ _ _ _ _ => (pe_ix (r := rIxT K) ix_tup (pv 4) (pv 9) (fun _ _ => rfl)))) pa_nil)) pa_nil)) (by rfl))
      (pss_cons (ps_set (i := 8) sc_Lleft_right.nd rfl (.inl rfl) (pe_kw k_either_point_box_number_task hr (by decide) (by rfl) (pk_cons (pv 2) (pk_cons (pv 1) (pk_cons (pv 0) pk_nil)))))
      (pss_cons (ps_if (pt_cmpR op_ne (pe_callB (call_showX hgd hr.units) (by rfl) T.b_repr (by decide +kernel) (pa_cons (pe_x x_either_point hr (by decide) (by rfl) (pa_cons (pv 0) (pa_cons (pv 1) (pa_cons (pv 2) pa_nil)))) pa_nil)) (pe_callB (call_showX hgd hr.units) (by rfl) T.b_repr (by decide +kernel) (pa_cons (pv 8) pa_nil)) (nomark _)) (pss_one (ps_ret pe_bl)) pss_nil)
      (pss_cons (ps_if (pt_cmpR (op_eqD hr.units) (pv 3) (pe_tup pa_nil) (nomark _)) (pss_one (ps_ret (pe_and (pe_cmpR op_isN (pv 6) pe_non (nomark _)) (pe_and (pe_cmpR op_isN (pv 8) pe_non (nomark _)) (pe_one (pe_cmpR op_eq (pe_callB (call_showX hgd hr.units) (by rfl) T.b_repr (by decide +kernel) (pa_cons (pe_fld (pv 0) (by rfl)) pa_nil)) (pv 5) (nomark _))))))) pss_nil)
      (pss_cons (ps_if (pt_not (pt_val (pe_c c_Lpoint_right hr (by decide) (by rfl) (pa_cons (pv 4) (pa_cons (pv 2) (pa_cons (pv 8) pa_nil)))))) (pss_one (ps_ret pe_bl)) pss_nil)
      (pss_one (ps_ret (pe_and (pe_cmpR op_eq (pe_callB (call_showX hgd hr.units) (by rfl) T.b_repr (by decide +kernel) (pa_cons (pv 6) pa_nil)) (pe_callB (call_showX hgd hr.units) (by rfl) T.b_repr (by decide +kernel) (pa_cons (pe_ifExp (pt_cmpR op_eq (pe_callB call_len_seq (by rfl) T.b_len (by decide +kernel) (pa_cons (pv 7) pa_nil)) pe_int (nomark _)) (pe_ix ix_tup (pv 7) pe_int (fun _ _ => rfl)) (pe_tup (pa_cons pe_str (pa_cons (pv 7) pa_nil)))) pa_nil)) (nomark _)) (pe_one (pe_cmpR op_eq (pe_callB (call_showX hgd hr.units) (by rfl) T.b_repr (by decide +kernel) (pa_cons (pe_fld (pv 0) (by rfl)) pa_nil)) (pv 5) (nomark _))))))))))))), ?_⟩
    obtain ⟨xa, dx, pu, pw, pg, us, ws, rfl, hx, hpu, uv, hpw, wv, hpg⟩ := id te.tv
    obtain ⟨v, hv, wvv⟩ := wv.at2 te.at_
    obtain ⟨p, u, rfl, hp, rv⟩ := id wvv
    obtain ⟨ps, us2, rfl, hps, als⟩ := id rv
    have ok : RsOk rs box.length := ⟨r6, fun r hr => ⟨(te.ok r hr).len, (te.ok r hr).am⟩⟩
    have w5 := te.few
    refine ⟨_, rfl, xa, C, dx, _, _, rfl, hx, cc.cl, cc.nw, lk_w _ _ _, _, rfl, pw, _, (k : Int), .ref p, rfl, rfl, sq_tup hpw, atI_nat hv, p, _, 1, .ref ps, rfl, rfl, sq_tup hp, rfl, _, rfl, xa, C, dx, _, _, rfl, hx, cc.cl, cc.nw, lk_w _ _ _, ?_⟩
    have kd : Dp K H (.ref pw) (.tuple (wl.map dWish)) := .tup (sq_tup hpw) (dpWs wv)
    refine ⟨_, _, rfl, kd, shWs te.wb (by omega) w5, .inl ⟨_, rfl⟩, len2, fun tt ntt => ?_⟩
    have kt := same_upd (o := .tup [.ref ps, .str (PyData.tuple (wl.map dWish)).shown]) ntt
    have htt : upd H tt (.tup [.ref ps, .str (PyData.tuple (wl.map dWish)).shown]) tt = some (.tup [.ref ps, .str (PyData.tuple (wl.map dWish)).shown]) := upd_same
    generalize upd H tt (.tup [.ref ps, .str (PyData.tuple (wl.map dWish)).shown]) = H1 at *
    obtain ⟨po, rfl, hpo⟩ := id lo
    refine ⟨tt, _, rfl, sq_tup htt, rfl, _, _, rfl, _, _, rfl, rfl, ?_⟩
    refine ⟨_, rfl, _, rfl, _, rfl, .ref xa, .int (k : Nat), b, ul, wl, goal, box, rfl, same_tv te.tv kt, by omega, .inl ⟨k, rs, rfl, te.at_, bv.same kt, ok, fun H2 v2 s2 lv2 => ?_⟩⟩
    have so := natI_sh (rs := rs) (box := box) r6
    have lno : (natI (opn rs box)).length ≤ 6 := by unfold natI; rw [List.length_map]; exact Nat.le_trans opn_len r6
    have sho : Shw 60 1000000 (dI (natI (opn rs box))) := (shI so (by omega)).mono (by decide) (by decide)
    obtain ⟨p2, rfl, hp2⟩ := id lv2
    have s02 := kt.trans s2
    refine ⟨_, _, rfl, dpI lv2, sho, .inl ⟨_, rfl⟩, _, rfl, _, _, rfl, dpI (lo.same s02), sho, .inl ⟨_, rfl⟩, rfl, _, rfl, ite2 (fun z => by simp at z) (fun _ => ?_)⟩
    -- the wish that is left, the one that is due
    refine ⟨_, rfl, _, rfl, _, rfl, .ref xa, .int (k : Nat), b, ul, wl, goal, box, rfl, same_tv te.tv s02, by omega, .inl ⟨k, rs, rfl, te.at_, bv.same s02, ok, fun H3 vl s3 lft => ?_⟩⟩
    have s03 := s02.trans s3
    refine ⟨_, rfl, po, rfl, ⟨_, sq_tup (s03 _ _ hpo)⟩, fun D nD => ?_⟩
    refine lc_tup (K := K) (a := po) (xs := (natI (opn rs box)).map V.int) (fun i H' => ∃ vs, H' D = some (.lst vs) ∧ All2 (RV H') vs ((dueR rs box).take i) ∧ Same H3 H') ⟨[], upd_same, .nil, same_upd nD⟩ (fun i H' _ h => by obtain ⟨_, _, _, s⟩ := h; exact sq_tup (s _ _ (s03 _ _ hpo))) ?_ ?_
    · rintro i v H4 hv ⟨vs, hD, a4, s4⟩
      obtain ⟨j, hj, rfl⟩ := nat_at hv
      have lj := opn_lt (List.mem_of_getElem? hj)
      obtain ⟨u, hu, ru⟩ := als.at2 (row_get lj)
      have s04 := s03.trans s4
      have la := a4.len
      rw [List.length_take] at la
      have li := (List.getElem?_eq_some_iff.mp hj).1
      have lo6 := opn_len (rs := rs) (box := box)
      have e : (dueR rs box).take (i + 1) = (dueR rs box).take i ++ [rowAt rs j] := by
        refine take_one ?_
        unfold dueR
        rw [List.getElem?_map, hj]; rfl
      refine ⟨rfl, _, rfl, _, rfl, ps, _, (j : Int), u, rfl, rfl, sq_tup (s04 _ _ hps), atI_nat hu, vs, hD, small1000 (by omega), vs ++ [u], upd_same, ?_, same_at s4 nD⟩
      rw [e]
      exact (a4.mono fun v r g => g.tk (TK.put hD)).app ((ru.same s04).tk (TK.put hD))
    rintro H4 ⟨vs, hD, a4, s4⟩
    rw [natI_len] at a4
    have ld : (dueR rs box).length = (opn rs box).length := by unfold dueR; rw [List.length_map]
    rw [List.take_of_length_le (by omega)] at a4
    have lvs := a4.len
    refine ⟨D, _, rfl, .inl ⟨sq_lst hD, fun pd npd => ?_⟩⟩
    have kd' := same_upd (o := .tup vs) npd
    have hpd : upd H4 pd (.tup vs) pd = some (.tup vs) := upd_same
    have a5 := a4.mono fun v r g => RV.same g kd'
    have s35 := s4.trans kd'
    show tNil _ (upd H4 pd (.tup vs)) _
    generalize upd H4 pd (.tup vs) = H5 at *
    have s05 := s03.trans s35
    refine ⟨_, _, rfl, ?_⟩
    -- the point
    refine ⟨_, rfl, _, rfl, _, rfl, .ref xa, .int (k : Nat), b, ul, wl, goal, box, rfl, same_tv te.tv s05, by omega, .inl ⟨k, rs, rfl, te.at_, bv.same s05, by omega, ok, fun H6 vp s6 pt => ?_⟩⟩
    have s06 := s05.trans s6
    refine ⟨_, rfl, _, rfl, _, rfl, .ref xa, .int (k : Nat), b, ul, wl, goal, box, rfl, same_tv te.tv s06, by omega, .inl ⟨k, rs, rfl, te.at_, bv.same s06, by omega, ok, fun H7 vp2 s7 pt2 => ?_⟩⟩
    obtain ⟨dp1, sh1, hn1⟩ := pt_shown (K := K) pt2 bs (by omega) ok
    obtain ⟨dp2, sh2, hn2⟩ := pt_shown (K := K) (pt.same s7) bs (by omega) ok
    refine ⟨_, _, rfl, dp1, sh1, hn1, _, rfl, _, _, rfl, dp2, sh2, hn2, rfl, _, rfl, ite2 (fun z => by simp at z) (fun _ => ?_)⟩
    have s07 := s06.trans s7
    -- is any open
    refine ⟨_, rfl, nil_ok, fun e0 ne0 => ?_⟩
    have ke := same_upd (o := .tup []) ne0
    have he0 : upd H7 e0 (.tup []) e0 = some (tI []) := upd_same
    show rEqD _ _ _ (upd H7 e0 (.tup [])) _
    generalize upd H7 e0 (.tup []) = H8 at *
    have s08 := s07.trans ke
    have kd8 : ∀ {H'}, Same H8 H' → Dp K H' (.ref pw) (.tuple (wl.map dWish)) := fun s => .tup (sq_tup ((s08.trans s) _ _ hpw)) (dpWs (wv.same (s08.trans s)))
    refine ⟨_, _, dpI (lo.same s08), dpI ⟨e0, rfl, he0⟩, shpI _, shpI [], ?_⟩
    rw [eqvI]
    refine ⟨_, rfl, ite2 (fun z => ?_) (fun z => ?_)⟩
    · have z : natI (opn rs box) = [] := of_decide_eq_true z
      have zo : opn rs box = [] := by simpa [natI] using z
      have zd : dueR rs box = [] := by unfold dueR; rw [zo]; rfl
      rw [zd] at lft
      obtain rfl : vl = .non := lft
      unfold PtV at pt
      rw [zd] at pt
      obtain rfl : vp = .non := pt
      refine ⟨_, rfl, rfl, _, rfl, ite2 (fun _ => ?_) (fun z => absurd (decide_eq_true rfl) z)⟩
      refine ⟨_, rfl, rfl, _, rfl, ite2 (fun _ => ?_) (fun z => absurd (decide_eq_true rfl) z)⟩
      refine ⟨_, rfl, xa, C, dx, _, _, rfl, s08 _ _ hx, cc.cl, cc.nw, lk_w _ _ _, _, _, rfl, kd8 (Same.refl _), shWs te.wb (by omega) w5, .inl ⟨_, rfl⟩, _, rfl, rfl, ?_⟩
      rw [decide_eq_true rfl]
      exact fin _ s08
    · have z : ¬ natI (opn rs box) = [] := fun e => z (decide_eq_true e)
      have zd : dueR rs box ≠ [] := fun e => z (by
        have : opn rs box = [] := by simpa [dueR] using e
        rw [this]; rfl)
      obtain ⟨r0, rt, hd⟩ : ∃ r0 rt, dueR rs box = r0 :: rt := by
        cases h : dueR rs box with
        | nil => exact absurd h zd
        | cons a t => exact ⟨a, t, rfl⟩
      have rb := due_RBd (box := box) fun r hr => (te.ok r hr).rbd
      unfold PtV at pt
      rw [hd] at lft a5 ld pt rb
      have lo6 := opn_len (rs := rs) (box := box)
      obtain ⟨i0, hi0, b0⟩ := due_iff.mp (show r0 ∈ dueR rs box by rw [hd]; simp)
      have m0 := List.mem_of_getElem? hi0
      have l0 := (te.ok r0 m0).len
      have keptT : keptF rs (corner r0.am box) = true := List.any_eq_true.mpr ⟨r0, m0, decide_eq_true (by rw [corner_top l0]; exact b0)⟩
      have pt8 : LV H8 vp (corner r0.am box) := LV.same pt (s7.trans ke)
      refine ⟨_, rfl, _, rfl, _, rfl, .ref ps, b, vp, rs, box, _, rfl, rv.same s08, bv.same s08, pt8, corner_in l0 hb, by omega, ok, keptT, fun H9 s9 => ⟨true, rfl, iteF ?_⟩⟩
      have s09 := s08.trans s9
      have s39 := (s35.trans (s6.trans (s7.trans ke))).trans s9
      have s59 := (s6.trans (s7.trans ke)).trans s9
      have hpd9 := s59 _ _ hpd
      have a9 := a5.mono fun v r g => RV.same g s59
      have last : ∀ H', Same H9 H' → tOp rEq (tCB (rShowX K) (tCons (tFld K (tVar 0) "wishes") tNil)) (tVar 5) [some (.ref xa), some (.int (k : Nat)), some b, some (.ref po), some (.ref ps), some (.str (PyData.tuple (wl.map dWish)).shown), some vl, some (.ref pd), some vp, none] H' Q := fun H' s' => by
        refine ⟨_, rfl, xa, C, dx, _, _, rfl, (s09.trans s') _ _ hx, cc.cl, cc.nw, lk_w _ _ _, _, _, rfl, kd8 (s9.trans s'), shWs te.wb (by omega) w5, .inl ⟨_, rfl⟩, _, rfl, rfl, ?_⟩
        rw [decide_eq_true rfl]
        exact fin _ (s09.trans s')
      match rt, vs, a9, lft, hpd9, ld with
      | [], [v0], .cons g0 .nil, lft, hpd9, ld =>
        have shr : Shw 60 1000000 (dRow r0) := (shRow (rb r0 (by simp)) (by omega)).mono (by decide) (by decide)
        have lf9 : RV H9 vl r0 := RV.same lft s39
        obtain ⟨a1, _, e1, _⟩ := id lf9
        obtain ⟨a2, _, e2, _⟩ := id g0
        refine ⟨_, rfl, vl, _, rfl, dpRow lf9, shr, .inl ⟨a1, e1⟩, _, rfl, pd, _, rfl, .inr (sq_tup hpd9), rfl, _, rfl, ite2 (fun _ => ?_) (fun z => absurd (decide_eq_true rfl) z)⟩
        refine ⟨_, rfl, pd, _, 0, v0, rfl, rfl, sq_tup hpd9, rfl, v0, _, rfl, dpRow g0, shr, .inl ⟨a2, e2⟩, rfl, _, rfl, ite2 (fun _ => last _ (Same.refl _)) (fun z => absurd (decide_eq_true rfl) z)⟩
      | r1 :: rt, v0 :: v1 :: vt, .cons g0 (.cons g1 gt), lft, hpd9, ld =>
        have shr : Shw 60 1000000 (dWish (.either (r0 :: r1 :: rt))) := (shWish (n := box.length) (z := .either (r0 :: r1 :: rt)) ⟨by omega, rb⟩ (by omega)).mono (by decide) (by decide)
        have lf9 : WV H9 vl (.either (r0 :: r1 :: rt)) := WV.same (x := .either (r0 :: r1 :: rt)) lft s39
        obtain ⟨a1, _, e1, _⟩ := id lf9
        refine ⟨_, rfl, vl, _, rfl, dpEi lf9, shr, .inl ⟨a1, e1⟩, _, rfl, pd, _, rfl, .inr (sq_tup hpd9), rfl, _, rfl, ite2 (fun z => ?_) (fun _ => ?_)⟩
        · have z := of_decide_eq_true z
          injection z with z
          simp only [List.length_cons] at z
          omega
        · refine ⟨_, rfl, len2, fun pe npe => ?_⟩
          have kpe := same_upd (o := .tup [.str "either", .ref pd]) npe
          have we : WV (upd H9 pe (.tup [.str "either", .ref pd])) (.ref pe) (.either (r0 :: r1 :: rt)) := ⟨pe, .ref pd, rfl, upd_same, pd, _, rfl, kpe _ _ hpd9, .cons (g0.same kpe) (.cons (g1.same kpe) (gt.mono fun v r g => g.same kpe))⟩
          exact ⟨.ref pe, _, rfl, dpEi we, shr, .inl ⟨_, rfl⟩, rfl, _, rfl, ite2 (fun _ => last _ kpe) (fun z => absurd (decide_eq_true rfl) z)⟩
end
end M66

namespace M66
open PySem PySem.Spec PyProof.Rows L2 SX Own Gd
open C8 (Cal pe_c pe_gc pe_mk Mak pss_cut)
/-! ### the draws told are right -/
theorem sd1_self {i s : Nat} {p : Fr} : sd1 i s p p = [] := if_pos rfl
theorem drawsU_self (B : List Fr) : ∀ n, drawsU B B n = []
  | 0 => rfl
  | n + 1 => by
    show drawsU B B n ++ (([] ++ sd1 n 0 _ _) ++ sd1 n 1 _ _) = []
    rw [drawsU_self B n, sd1_self, sd1_self]; rfl
theorem sdN_mem {i : Nat} {p q : Fr} {d : Dw} : ∀ {s : Nat}, s ≤ 2 → d ∈ sdN i p q s → d.1 = (i : Int) ∧ (d.2.1 = 0 ∨ d.2.1 = 1) ∧ (d.2.2 = q.1 ∨ d.2.2 = q.2)
  | 0, _, h => by cases h
  | s + 1, hs, h => by
    rcases List.mem_append.mp h with h | h
    · exact sdN_mem (by omega) h
    · unfold sd1 at h
      split at h
      · cases h
      · rw [List.mem_singleton.mp h]
        match s, hs with
        | 0, _ => exact ⟨rfl, .inl rfl, .inl rfl⟩
        | 1, _ => exact ⟨rfl, .inr rfl, .inr rfl⟩
theorem drawsU_mem {box B : List Fr} (hB : BxS B) {d : Dw} : ∀ {n : Nat}, n ≤ B.length → n ≤ 100 → d ∈ drawsU box B n → DwS d
  | 0, _, _, h => by cases h
  | n + 1, hn, h1, h => by
    rcases List.mem_append.mp h with h | h
    · exact drawsU_mem hB (by omega) (by omega) h
    · obtain ⟨e1, e2, e3⟩ := sdN_mem (Nat.le_refl 2) h
      have eB : B.getD n (0, 0) = B[n]'(by omega) := by rw [List.getD_eq_getElem?_getD, List.getElem?_eq_getElem (by omega)]; rfl
      have hb := hB _ (List.getElem_mem (l := B) (n := n) (by omega))
      rw [eB] at e3
      refine ⟨?_, ?_, ?_⟩
      · rw [e1]; exact Nat.lt_of_le_of_lt (show ((n : Nat) : Int).natAbs ≤ 100 by omega) (by decide)
      · rcases e2 with e | e <;> rw [e]
        · exact (by decide : (0 : Int).natAbs < 10 ^ 12)
        · exact (by decide : (1 : Int).natAbs < 10 ^ 12)
      · rcases e3 with e | e <;> rw [e]
        · exact hb.1
        · exact hb.2
structure LstOk (box B : List Fr) (rs : List Row) : Prop where
  len : B.length = box.length
  bx : Bx B
  bs : BxS B
  sub : ∀ (i : Nat) p q, box[i]? = some p → B[i]? = some q → p.1 ≤ q.1 ∧ q.2 ≤ p.2
  ne : 1 ≤ box.length → ∃ x, Ei box rs x
theorem lst_ok {box B : List Fr} {rs : List Row} (h : Lst (Ei box rs) box.length B) (bs : BxS box) : LstOk box B rs := by
  have l := h.len
  have sub := h.sub (box := box) (fun x hx => by obtain ⟨r, _, k⟩ := hx; exact k.1) rfl
  have at2 : ∀ p ∈ B, ∃ q ∈ box, q.1 ≤ p.1 ∧ p.1 ≤ p.2 ∧ p.2 ≤ q.2 := fun p hp => by
    obtain ⟨i, hi, e⟩ := List.getElem_of_mem hp
    have e2 : box[i]? = some (box[i]'(by omega)) := List.getElem?_eq_getElem _
    exact ⟨_, List.mem_of_getElem? e2, sub i p _ (by rw [List.getElem?_eq_getElem hi, e]) e2⟩
  refine ⟨l, fun p hp => ?_, fun p hp => ?_, fun i p q e1 e2 => ?_, fun h1 => ?_⟩
  · obtain ⟨q, _, h1, h2, h3⟩ := at2 p hp
    exact h2
  · obtain ⟨q, hq, h1, h2, h3⟩ := at2 p hp
    obtain ⟨g1, g2⟩ := bs q hq
    unfold Sh12 at *
    constructor <;> omega
  · have := sub i q p e2 e1
    exact ⟨this.1, this.2.2⟩
  · have e : B[0]? = some (B[0]'(by omega)) := List.getElem?_eq_getElem _
    obtain ⟨⟨x, hx, _⟩, _⟩ := h.lo 0 _ e
    exact ⟨x, hx⟩
section
variable {P : Program} {w : World} {K : PySem.W.Frag} {mg : Str → Option Value} {base : Heap} {aW aT : Addr} {es : Array DictEntry} {nn : Nat}
abbrev s_Ldrawn_right : Stmt := topS 61
abbrev n_Ldrawn_right : List Str := ["task", "number", "box", "least", "told", "draws"]
theorem sc_Ldrawn_right : FnScope n_Ldrawn_right ["task", "number", "box", "least"] (defScope s_Ldrawn_right) := ⟨rfl, rfl, rfl, by decide +kernel, rfl, by decide +kernel, by decide +kernel⟩
def spDrawnRight (C : Addr) : Sp := fun vs H Q _ => ∃ (tv b lv : V) (k : Nat) (rs : List Row) (ul : List Unk) (wl : List Wish) (goal : List Int) (box : List Fr), vs = [tv, .int k, b, lv] ∧ TkE C H tv box.length k rs ul wl goal ∧ SV H b box ∧ 1 ≤ box.length ∧ box.length ≤ 7 ∧ Bx box ∧ BxS box ∧ rs.length ≤ 6 ∧
  ((lv = .non ∧ ¬ ∃ x, Ei box rs x) ∨ ∃ B, SV H lv B ∧ Lst (Ei box rs) box.length B) ∧ ∀ H', Same H H' → Q (.bl true) H'
theorem ok_Ldrawn_right {f C CR : Addr} {fd : FuncData} (F : Fun K "_law_drawn_right" "_law_drawn_right" s_Ldrawn_right f fd) (T : Txt K mg w aW aT es nn) (c_Ldue_draws : Cal P w K mg base 1 "_law_due_draws" spDue []) (x_either_draws : CalX P w K mg base 8 "either_draws" (spDraws C CR)) (x_either_box : CalX P w K mg base 7 "either_box" (spBox C CR))
    (k_either_box_box_number_task : CalK P w K mg base 8 "either_box" ["box", "number", "task"] List.reverse (spBox C CR)) (k_either_draws_box_number_task : CalK P w K mg base 8 "either_draws" ["box", "number", "task"] List.reverse (spDraws C CR)) : FnG P w K mg base CX0 9 f fd ["task", "number", "box", "least"] (spDrawnRight C) := by
  refine fun_okG F sc_Ldrawn_right (fun vs H Q E h => ?_) (fun cdv A outer s H vs Q E hgd hr h => ?_)
  · obtain ⟨tv, b, lv, k, rs, ul, wl, goal, box, rfl, _⟩ := h
    rfl
  · obtain ⟨tv, b, lv, k, rs, ul, wl, goal, box, rfl, te, bv, l1, l7, hb, bs, r6, hl, fin⟩ := h
    refine ⟨_, (pss_cons (ps_par (i := 4) (j := 5) (by rfl) sc_Ldrawn_right.nd rfl rfl (by decide) rfl rfl (pa_cons (pe_kw k_either_box_box_number_task hr (by decide) (by rfl) (pk_cons (pv 2) (pk_cons (pv 1) (pk_cons (pv 0) pk_nil)))) (pa_cons (pe_x x_either_draws hr (by decide) (by rfl) (pa_cons (pv 0) (pa_cons (pv 1) (pa_cons (pv 2) pa_nil)))) pa_nil)) (by rfl))
      (pss_cons (ps_if (pt_cmpR op_isN (pv 3) pe_non (nomark _)) (pss_one (ps_ret (pe_and (pe_cmpR op_isN (pv 4) pe_non (nomark _)) (pe_one (pe_cmpR op_eq (pe_callB (call_showX hgd hr.units) (by rfl) T.b_repr (by decide +kernel) (pa_cons (pv 5) pa_nil)) (pe_callB (call_showX hgd hr.units) (by rfl) T.b_repr (by decide +kernel) (pa_cons (pe_tup (pa_cons pe_str (pa_cons (pe_tup (pa_cons pe_str (pa_cons (pv 1) pa_nil))) pa_nil))) pa_nil)) (nomark _)))))) pss_nil)
      (pss_cons (ps_if (PW.pt (pw_or (pt_cmpR op_ne (pe_callB (call_showX hgd hr.units) (by rfl) T.b_repr (by decide +kernel) (pa_cons (pv 4) pa_nil)) (pe_callB (call_showX hgd hr.units) (by rfl) T.b_repr (by decide +kernel) (pa_cons (pv 3) pa_nil)) (nomark _)) (pw_or1 (pt_cmpR op_ne (pe_callB (call_showX hgd hr.units) (by rfl) T.b_repr (by decide +kernel) (pa_cons (pv 5) pa_nil)) (pe_callB (call_showX hgd hr.units) (by rfl) T.b_repr (by decide +kernel) (pa_cons (pe_c c_Ldue_draws hr (by decide) (by rfl) (pa_cons (pv 2) (pa_cons (pv 3) (pa_cons (pv 1) pa_nil)))) pa_nil)) (nomark _))))) (pss_one (ps_ret pe_bl)) pss_nil)
      (pss_one (ps_ret (pe_and (pe_cmpR op_eq (pe_callB (call_showX hgd hr.units) (by rfl) T.b_repr (by decide +kernel) (pa_cons (pe_kw k_either_draws_box_number_task hr (by decide) (by rfl) (pk_cons (pv 3) (pk_cons (pv 1) (pk_cons (pv 0) pk_nil)))) pa_nil)) pe_str (nomark _)) (pe_one (pe_cmpR op_eq (pe_callB (call_showX hgd hr.units) (by rfl) T.b_repr (by decide +kernel) (pa_cons (pe_x x_either_box hr (by decide) (by rfl) (pa_cons (pv 0) (pa_cons (pv 1) (pa_cons (pv 3) pa_nil)))) pa_nil)) (pe_callB (call_showX hgd hr.units) (by rfl) T.b_repr (by decide +kernel) (pa_cons (pv 3) pa_nil)) (nomark _))))))))), ?_⟩
    have ok : RsOk rs box.length := ⟨r6, fun r hr => ⟨(te.ok r hr).len, (te.ok r hr).am⟩⟩
    have w5 := te.few
    have k1000 : k ≤ 1000 := by have := te.k2; omega
    rcases hl with ⟨rfl, none⟩ | ⟨B, sB, lst⟩
    · refine ⟨_, rfl, _, rfl, _, rfl, tv, .int (k : Nat), b, ul, wl, goal, box, rfl, te.tv, by omega, .inl ⟨k, rs, rfl, te.at_, bv, by omega, hb, ok, fun _ H1 s1 => ?_, fun H1 v B s1 lst => absurd ((lst_ok lst bs).ne l1) none⟩⟩
      refine ⟨_, rfl, _, rfl, _, rfl, tv, .int (k : Nat), b, ul, wl, goal, box, rfl, same_tv te.tv s1, by omega, .inl ⟨k, rs, rfl, te.at_, bv.same s1, by omega, hb, ok, fun _ H2 v2 s2 no => ?_, fun H1 v B s1 lst => absurd ((lst_ok lst bs).ne l1) none⟩⟩
      have s02 := s1.trans s2
      refine ⟨_, _, rfl, ?_⟩
      refine ⟨_, rfl, rfl, _, rfl, ite2 (fun _ => ?_) (fun z => absurd (decide_eq_true rfl) z)⟩
      refine ⟨_, rfl, rfl, _, rfl, ite2 (fun _ => ?_) (fun z => absurd (decide_eq_true rfl) z)⟩
      obtain ⟨p2, lv2, e2, _, _⟩ := id no
      refine ⟨_, rfl, v2, _, rfl, dpNo no, shNo k1000, .inl ⟨p2, e2⟩, _, rfl, len2, fun lf nlf => ⟨len2, fun pn npn => ?_⟩⟩
      have klf := same_upd (o := .tup [.str "shut", .int (k : Nat)]) nlf
      have elf : upd H2 lf (.tup [.str "shut", .int (k : Nat)]) lf = some (.tup [.str "shut", .int (k : Nat)]) := upd_same
      generalize upd H2 lf (.tup [.str "shut", .int (k : Nat)]) = H3 at *
      have kpn := same_upd (o := .tup [.str "leaf", .ref lf]) npn
      have no2 : NoV (upd H3 pn (.tup [.str "leaf", .ref lf])) (.ref pn) k := ⟨pn, .ref lf, rfl, upd_same, lf, rfl, kpn _ _ elf⟩
      refine ⟨.ref pn, _, rfl, dpNo no2, shNo k1000, .inl ⟨_, rfl⟩, rfl, ?_⟩
      rw [decide_eq_true rfl]
      exact fin _ (s02.trans (klf.trans kpn))
    · have lo := lst_ok lst bs
      have ei := lo.ne l1
      have ok2 : RsOk rs B.length := by rw [lo.len]; exact ok
      have lst2 := lst.again
      have ei2 : ∃ x, Ei B rs x := by obtain ⟨x, hx⟩ := ei; exact ⟨x, (lst.same x).mpr hx⟩
      have shB : Shw 60 1000000 (dBox B) := shBox lo.bs (by rw [lo.len]; omega)
      have shD : Shw 60 1000000 (dDrs k (drawsU box B box.length)) := shDrs k1000 (fun d hd => drawsU_mem lo.bs (by rw [lo.len]; exact Nat.le_refl _) (by omega) hd) (Nat.le_trans (drawsU_len _) (by omega))
      refine ⟨_, rfl, _, rfl, _, rfl, tv, .int (k : Nat), b, ul, wl, goal, box, rfl, te.tv, by omega, .inl ⟨k, rs, rfl, te.at_, bv, by omega, hb, ok, fun z => absurd ei z, fun H1 v1 B1 s1 l1' sv1 => ?_⟩⟩
      cases l1'.uniq lst
      refine ⟨_, rfl, _, rfl, _, rfl, tv, .int (k : Nat), b, ul, wl, goal, box, rfl, same_tv te.tv s1, by omega, .inl ⟨k, rs, rfl, te.at_, bv.same s1, by omega, hb, ok, fun z => absurd ei z, fun H2 v2 B2 s2 l2' dv => ?_⟩⟩
      cases l2'.uniq lst
      have s02 := s1.trans s2
      refine ⟨_, _, rfl, ?_⟩
      obtain ⟨pl, ps, rfl, hpl, all⟩ := id sB
      obtain ⟨p1, ps1, rfl, _, _⟩ := id sv1
      obtain ⟨p2, ps2, rfl, _, _⟩ := id dv
      refine ⟨_, rfl, rfl, _, rfl, ite2 (fun z => absurd (of_decide_eq_true z) (fun z => by cases z)) (fun _ => ?_)⟩
      refine ⟨_, rfl, _, _, rfl, dpBox (sv1.same s2), shB, .inl ⟨_, rfl⟩, _, rfl, _, _, rfl, dpBox (sB.same s02), shB, .inl ⟨_, rfl⟩, rfl, _, rfl, ite2 (fun z => by simp at z) (fun _ => ?_)⟩
      refine ⟨_, rfl, _, _, rfl, dpDrs dv, shD, .inl ⟨_, rfl⟩, _, rfl, _, rfl, _, rfl, b, .ref pl, box, B, k, rfl, bv.same s02, sB.same s02, lo.len, by omega, lo.sub, fun H3 v3 s3 dv3 => ?_⟩
      obtain ⟨p3, ps3, rfl, _, _⟩ := id dv3
      have s03 := s02.trans s3
      refine ⟨_, _, rfl, dpDrs dv3, shD, .inl ⟨_, rfl⟩, rfl, _, rfl, ite2 (fun z => by simp at z) (fun _ => ?_)⟩
      refine ⟨_, rfl, _, rfl, _, rfl, tv, .int (k : Nat), .ref pl, ul, wl, goal, B, rfl, same_tv te.tv s03, by omega, .inl ⟨k, rs, rfl, te.at_, sB.same s03, by rw [lo.len]; omega, lo.bx, ok2, fun z => absurd ei2 z, fun H4 v4 B4 s4 l4' dv4 => ?_⟩⟩
      cases l4'.uniq lst2
      rw [drawsU_self] at dv4
      obtain ⟨p4, ps4, rfl, _, _⟩ := id dv4
      have s04 := s03.trans s4
      refine ⟨_, _, rfl, dpDrs dv4, shDrs k1000 (fun d hd => by cases hd) (Nat.zero_le _), .inl ⟨_, rfl⟩, rfl, _, rfl, ite2 (fun _ => ?_) (fun z => absurd (decide_eq_true (congrArg V.str (show (dDrs k []).shown = "()" from rfl))) z)⟩
      refine ⟨_, rfl, _, rfl, _, rfl, tv, .int (k : Nat), .ref pl, ul, wl, goal, B, rfl, same_tv te.tv s04, by omega, .inl ⟨k, rs, rfl, te.at_, sB.same s04, by rw [lo.len]; omega, lo.bx, ok2, fun z => absurd ei2 z, fun H5 v5 B5 s5 l5' sv5 => ?_⟩⟩
      cases l5'.uniq lst2
      obtain ⟨p5, ps5, rfl, _, _⟩ := id sv5
      have s05 := s04.trans s5
      refine ⟨_, _, rfl, dpBox sv5, shB, .inl ⟨_, rfl⟩, _, rfl, _, _, rfl, dpBox (sB.same s05), shB, .inl ⟨_, rfl⟩, rfl, ?_⟩
      rw [decide_eq_true rfl]
      exact fin _ s05
end
end M66

namespace M66
open PySem PySem.Spec PyProof.Rows L2 SX Own Gd
open C8 (Cal pe_c pe_gc pe_mk Mak pss_cut)
/-! ### _law_word, handed a lambda; what is refused -/
abbrev s_Lword : Stmt := topS 56
abbrev n_Lword : List Str := ["work", "error"]
theorem sc_Lword : FnScope n_Lword ["work"] (defScope s_Lword) := ⟨rfl, rfl, rfl, by decide +kernel, rfl, by decide +kernel, by decide +kernel⟩
/-- the error that is caught -/
structure Ex1 (K : PySem.W.Frag) (mg : Str → Option Value) (CR : Addr) : Prop where
  r : ∃ f, ExT K mg "Refused" CR f
  rr : PySem.W.exmOne K (.ref CR) (.ref CR) = some true
/-- what is made of a refusal: its word -/
def Caught (CR : Addr) (Q : VK) : XK := fun cls d H => ∃ (dd : Addr) (y : V), cls = .ref CR ∧ d = some dd ∧ H dd = some (.xd [("word", y)]) ∧ Q y H
def TWord (CR : Addr) : (XK → Hp → VK → Prop) → Hp → VK → Prop := fun tl H Q => tl (Caught CR Q) H (fun _ H' => Q (.str "") H')
theorem word_gives {X : Cx} {g CR : Addr} {cdg : Value} {q : Str} (T : Ex1 X.K X.mg CR) : LamX.GivesTo X n_Lword "_law_word" (defScope s_Lword) g cdg (defBody s_Lword) "work" q (TWord CR) := by
  obtain ⟨fR, tR⟩ := T.r
  intro f c' s H Q tl act hc h
  refine ⟨_, pss_cons (ps_try_named (X := (cxOf C8.CX0 X.prog X.w X.K X.mg X.base n_Lword "_law_word" (defScope s_Lword) g cdg X.A X.stack s H C8.E0).nox) (i := 1) (n := "error") (Wout := fun _ _ _ _ => False)
      (tb := fun W D σ H => ∃ Ech : XK, (∀ cls d σ' H', Ech cls d H' → W cls d σ' H') ∧ σ[0]? = some (some (.ref f)) ∧ H c' = some (LamX.CodeO c' q) ∧ tl Ech H (fun _ H' => D.nx σ H'))
      rfl rfl sc_Lword.nd rfl rfl L2.takes0 (fun W pn xe tk _ => ?_)
      (.cons ⟨by rfl, by decide, .inl tR.gC⟩ (fun a oe cls d pn hz hf => pss_one (ps_ret (pe_xf tR.xf tR.noW hz hf (pv 1)))) .nil)) (pss_one (ps_ret pe_str)), ?_⟩
  · refine ⟨fun pins s' σ H' D I h' => ?_⟩
    obtain ⟨Ech, hW, h1, h2, h3⟩ := h'
    exact (pss_one (ps_expr (act W pn xe Ech _ _ tk hW))).run pins s' σ H' D I ⟨h1, h2, h3⟩
  · refine ⟨Caught CR Q, fun cls d σ' H' hc => ?_, rfl, hc, ?_⟩
    · obtain ⟨dd, y, rfl, hd, hdd, k⟩ := hc
      have at1 : ∀ (a : Addr), 1 < σ'.length → (List.set σ' 1 (some (V.ref a)))[1]? = some (some (V.ref a)) := fun a hl => by rw [List.getElem?_set_self hl]
      exact ⟨true, T.rr, fun _ a na hl => ⟨_, at1 a hl, rfl, rfl, dd, _, y, hd, hdd, rfl, k⟩, fun z => nomatch z⟩
    · exact h
section
variable {X : Cx} {CR c P : Addr} {T : List (Addr × Str)} {k j : Nat} {params : Arguments} {body : Expr} {scope : Scope} {t : XK → TE} {p lpos pos : Pos}
theorem pe_word (R : Df X.K X.mg "_law_word" s_Lword ["work"]) (E1 : Ex1 X.K X.mg CR) (TB : LamX.TabB X.base X.mg c P) (hcode : X.env.code = .ref c) (hmT : (P, X.env.qual ++ "<lambda>") ∈ T) (hu : ∀ p ∈ T, p.1 = P → p.2 = X.env.qual ++ "<lambda>")
    (hr : Room j X.A) (hk : k + 2 ≤ j) (hg : Gl X "_law_word") (L : LamX.LamS X.env.scope scope) (hdef : defaultsOf params X.env = ([], []))
    (hbind : ∀ (q : Str) (cl : List (Str × Addr)) (pm cv ctv : Value), bindArgs (PySem.W.kla_fn "<lambda>" q params body scope cl pm cv ctv) ⟨[], []⟩ = pure [])
    (hbody : ∀ (A : Around) (outer : List Env) (s : Shared) (H : Hp) (E : XK) (f c' : Addr), Room k (A.deeper (LamX.lamEnv X scope s.heap.objs.size f c')) → PE (LamX.lamCx X A outer s H E scope f c') body (t E)) :
    PE X (.Call (.Name "_law_word" p) [.Lambda params body scope lpos] [] pos) (LamX.tLam T (TWord CR) t) := by
  obtain ⟨g, fd, F, hm, b⟩ := R.ex
  have kp := F.kp
  obtain ⟨oc, od, kV, doc, pm, an, cdv, ct, osl, rfl, lk, hcd⟩ := F.ex
  exact LamX.pe_lamcall (Ng := n_Lword) hg hm kp lk hcd b sc_Lword rfl (.inl rfl) (word_gives E1) TB hcode hmT hu (hr.mono hk) L hdef hbind hbody
end
theorem LV.ext {H H' : Hp} {v : V} {a : List Int} (h : LV H v a) (s : LamX.ExtN H H') : LV H' v a := by
  obtain ⟨p, e, hp⟩ := h
  exact ⟨p, e, s _ _ hp (fun ps z => by cases z)⟩
theorem TK.ext {H H' : Hp} (s : LamX.ExtN H H') : TK H H' := fun a xs e => s _ _ e (fun ps z => by cases z)
theorem TaskV.ext {C : Addr} {H H' : Hp} {v : V} {ul : List Unk} {wl : List Wish} {goal : List Int} (t : TaskV C H v ul wl goal) (s : LamX.ExtN H H') : TaskV C H' v ul wl goal := by
  have tk := TK.ext s
  obtain ⟨x, dx, pu, pw, pg, us, ws, rfl, hx, hpu, uv, hpw, wv, hpg⟩ := t
  exact ⟨x, dx, pu, pw, pg, us, ws, rfl, s _ _ hx (fun ps z => by cases z), tk _ _ hpu, uv.tk tk, tk _ _ hpw, wv.tk tk, tk _ _ hpg⟩
theorem tabs_kp {T : List (Addr × Str)} {h q : Addr} {H H' : Hp} (t : LamX.Tabs T H) (a : HpAt H h q) (k : Kpt h q H H') : LamX.Tabs T H' := fun p hp => by
  obtain ⟨ps, h1, h2, h3⟩ := t p hp
  obtain ⟨cs, st, a⟩ := a
  refine ⟨ps, k _ _ h1 (Own.ne_of h1 a.hh (by intro z; cases z)) (Own.ne_of h1 a.hq (by intro z; cases z)), h2, fun pos cv hc => ?_⟩
  obtain ⟨c, e1, e2⟩ := h3 pos cv hc
  exact ⟨c, e1, k _ _ e2 (Own.ne_of e2 a.hh codeO_lst) (Own.ne_of e2 a.hq codeO_lst)⟩
section
variable {P : Program} {w : World} {K : PySem.W.Frag} {mg : Str → Option Value} {base : Heap} {aW aT : Addr} {es : Array DictEntry} {nn : Nat}
abbrev s_Lrefused : Stmt := topS 57
abbrev n_Lrefused : List Str := ["task", "box", "value", "found"]
theorem sc_Lrefused : FnScope n_Lrefused ["task", "box", "value"] (defScope s_Lrefused) := ⟨rfl, rfl, rfl, by decide +kernel, rfl, by decide +kernel, by decide +kernel⟩
abbrev qR : Str := (envOfC "_law_refused" (defScope s_Lrefused) 0 0 .none).qual ++ "<lambda>"
def spRefused (T : List (Addr × Str)) (C : Addr) : Sp := fun vs H Q _ => ∃ (tv b x : V) (ul : List Unk) (wl : List Wish) (goal : List Int), vs = [tv, b, x] ∧ TaskV C H tv ul wl goal ∧ wl.length ≤ 100 ∧ Odd H wl x ∧ LamX.Tabs T H ∧ ∀ H', LamX.ExtN H H' → LamX.Tabs T H' → Q (.bl true) H'
theorem wish6 {K : PySem.W.Frag} {H : Hp} {l l' : Addr} {n : Nat} {Q' : VK} (h : n ≤ 6) (hl : H l = some (.lst (List.replicate n (.str "wish")))) (hl' : H l' = some (.lst (List.replicate n (.str "wish")))) (k : Q' (.bl true) H) : rEqD K (.ref l) (.ref l') H Q' := by
  have dp : ∀ m, DpAll K H (List.replicate m (.str "wish")) (List.replicate m (.str "wish")) := fun m => by
    induction m with
    | zero => exact .nil
    | succ m ih => exact .cons (.str _) ih
  have sh : ∀ m : Fin 7, SeqAt.shaped (.list (List.replicate m (.str "wish"))) = true := by decide +kernel
  have s := sh ⟨n, by omega⟩
  refine ⟨_, _, .lst (sq_lst hl) (dp n), .lst (sq_lst hl') (dp n), s, s, ?_⟩
  rw [SeqAt.eqv_refl _ (SeqAt.canLay_of_shaped s)]; exact k
theorem ok_Lrefused {f c PA C CR : Addr} {T0 : List (Addr × Str)} {fd : FuncData} (F : FunC K "_law_refused" "_law_refused" s_Lrefused f fd c) (TB : LamX.TabB base mg c PA) (HM : (PA, qR) ∈ T0) (HU : ∀ p ∈ T0, p.1 = PA → p.2 = qR)
    (R : Df K mg "_law_word" s_Lword ["work"]) (E1 : Ex1 K mg CR) (x_open_sums : CalX P w K mg base 8 "open_sums" (spOpen C CR)) (x_either_left : CalX P w K mg base 8 "either_left" (spLeft C CR)) (x_either_point : CalX P w K mg base 8 "either_point" (spPoint C CR)) (x_sure_sum : CalX P w K mg base 8 "sure_sum" (spSure C CR)) (x_either_box : CalX P w K mg base 8 "either_box" (spBox C CR)) (x_either_draws : CalX P w K mg base 8 "either_draws" (spDraws C CR)) : FnOk P w K mg base CX0 12 f fd ["task", "box", "value"] (spRefused T0 C) := by
  refine F.ok sc_Lrefused (fun vs H Q E h => ?_) (fun A outer s H vs Q E hr h => ?_)
  · obtain ⟨tv, b, x, ul, wl, goal, rfl, _⟩ := h
    rfl
  · obtain ⟨tv, b, x, ul, wl, goal, rfl, tv0, lw, odd, ht, fin⟩ := h
    refine ⟨_, (pss_cut (ps_set (i := 3) sc_Lrefused.nd rfl (.inl rfl) (pe_lst (pa_cons (pe_word (k := 8) R E1 TB rfl HM HU hr (by decide) (by rfl) (LamX.lamS_by (show LamX.lamSB (defScope s_Lrefused) _ = true from (by decide +kernel))) rfl (fun _ _ _ _ _ => rfl) (fun A outer s H E f c2 hr => pe_xE (passes_call (takes_of rfl rfl rfl rfl) fun _ _ _ _ z => z) x_open_sums hr (by decide) (by rfl) (pa_cons (pv 0) (pa_cons (pv 2) (pa_cons (pv 1) pa_nil))))) pa_nil)))
      (pss_cut (ps_expr (pe_bm PySem.F.plainAttrs_list PySem.F.slot_list_append PySem.F.type_list_append mt_append (pv 3) (pa_cons (pe_word (k := 8) R E1 TB rfl HM HU hr (by decide) (by rfl) (LamX.lamS_by (show LamX.lamSB (defScope s_Lrefused) _ = true from (by decide +kernel))) rfl (fun _ _ _ _ _ => rfl) (fun A outer s H E f c2 hr => pe_xE (passes_call (takes_of rfl rfl rfl rfl) fun _ _ _ _ z => z) x_either_left hr (by decide) (by rfl) (pa_cons (pv 0) (pa_cons (pv 2) (pa_cons (pv 1) pa_nil))))) pa_nil)))
      (pss_cut (ps_expr (pe_bm PySem.F.plainAttrs_list PySem.F.slot_list_append PySem.F.type_list_append mt_append (pv 3) (pa_cons (pe_word (k := 8) R E1 TB rfl HM HU hr (by decide) (by rfl) (LamX.lamS_by (show LamX.lamSB (defScope s_Lrefused) _ = true from (by decide +kernel))) rfl (fun _ _ _ _ _ => rfl) (fun A outer s H E f c2 hr => pe_xE (passes_call (takes_of rfl rfl rfl rfl) fun _ _ _ _ z => z) x_either_point hr (by decide) (by rfl) (pa_cons (pv 0) (pa_cons (pv 2) (pa_cons (pv 1) pa_nil))))) pa_nil)))
      (pss_cut (ps_expr (pe_bm PySem.F.plainAttrs_list PySem.F.slot_list_append PySem.F.type_list_append mt_append (pv 3) (pa_cons (pe_word (k := 8) R E1 TB rfl HM HU hr (by decide) (by rfl) (LamX.lamS_by (show LamX.lamSB (defScope s_Lrefused) _ = true from (by decide +kernel))) rfl (fun _ _ _ _ _ => rfl) (fun A outer s H E f c2 hr => pe_xE (passes_call (takes_of rfl rfl rfl rfl) fun _ _ _ _ z => z) x_sure_sum hr (by decide) (by rfl) (pa_cons (pv 0) (pa_cons (pv 2) (pa_cons (pv 1) pa_nil))))) pa_nil)))
      (pss_cut (ps_expr (pe_bm PySem.F.plainAttrs_list PySem.F.slot_list_append PySem.F.type_list_append mt_append (pv 3) (pa_cons (pe_word (k := 8) R E1 TB rfl HM HU hr (by decide) (by rfl) (LamX.lamS_by (show LamX.lamSB (defScope s_Lrefused) _ = true from (by decide +kernel))) rfl (fun _ _ _ _ _ => rfl) (fun A outer s H E f c2 hr => pe_xE (passes_call (takes_of rfl rfl rfl rfl) fun _ _ _ _ z => z) x_either_box hr (by decide) (by rfl) (pa_cons (pv 0) (pa_cons (pv 2) (pa_cons (pv 1) pa_nil))))) pa_nil)))
      (pss_cut (ps_expr (pe_bm PySem.F.plainAttrs_list PySem.F.slot_list_append PySem.F.type_list_append mt_append (pv 3) (pa_cons (pe_word (k := 8) R E1 TB rfl HM HU hr (by decide) (by rfl) (LamX.lamS_by (show LamX.lamSB (defScope s_Lrefused) _ = true from (by decide +kernel))) rfl (fun _ _ _ _ _ => rfl) (fun A outer s H E f c2 hr => pe_xE (passes_call (takes_of rfl rfl rfl rfl) fun _ _ _ _ z => z) x_either_draws hr (by decide) (by rfl) (pa_cons (pv 0) (pa_cons (pv 2) (pa_cons (pv 1) pa_nil))))) pa_nil)))
      (pss_one (ps_ret (pe_cmpR (op_eqD hr.units) (pv 3) (pe_op op_rep (pe_lst (pa_cons pe_str pa_nil)) pe_int) (nomark _)))))))))), ?_⟩
    have od : ∀ {H'}, LamX.ExtN H H' → Odd H' wl x := fun s => odd.tk (TK.ext s)
    have app : ∀ {n : Nat} {l : Addr} {H1 H3 : Hp}, n < 6 → H1 l = some (.lst (List.replicate n (.str "wish"))) → FreeN H l → LamX.ExtN H H1 → LamX.ExtN H1 H3 → LamX.Tabs T0 H3 → H3 l = some (.lst (List.replicate n (.str "wish"))) ∧ (List.replicate n (V.str "wish")).length < sizeLine ∧ ∃ l', [some tv, some b, some x, some (.ref l)] = [some tv, some b, some x, some (.ref l')] ∧ (upd H3 l (.lst (List.replicate n (.str "wish") ++ [.str "wish"]))) l' = some (.lst (List.replicate (n + 1) (.str "wish"))) ∧ FreeN H l' ∧ LamX.ExtN H (upd H3 l (.lst (List.replicate n (.str "wish") ++ [.str "wish"]))) ∧ LamX.Tabs T0 (upd H3 l (.lst (List.replicate n (.str "wish") ++ [.str "wish"]))) := fun hn e1 fr x1 x3 t3 => by
      have e3 := x3 _ _ e1 (fun ps z => by cases z)
      refine ⟨e3, small1000 (by rw [List.length_replicate]; omega), _, rfl, ?_, fr, ext_put (x1.trans x3) fr, tabs_put t3 e3⟩
      rw [upd_same, List.replicate_succ']
    refine ⟨fun σ H' => ∃ l, σ = [some tv, some b, some x, some (.ref l)] ∧ H' l = some (.lst (List.replicate 1 (.str "wish"))) ∧ FreeN H l ∧ LamX.ExtN H H' ∧ LamX.Tabs T0 H', ?_, fun σ H1 hM => ?_⟩
    · refine ⟨ht, fun H1 x1 t1 => ⟨_, rfl, _, rfl, _, rfl, tv, x, b, ul, wl, goal, [], rfl, tv0.ext x1, lw, .inr ⟨od x1, fun d H2 s2 h2 => ⟨d, .str "wish", rfl, rfl, h2, one_ok, fun l nl => ?_⟩⟩⟩⟩
      have x2 := x1.trans (ext_of s2)
      exact ⟨l, rfl, upd_same, freeN_of x2 nl, ext_at x2 nl, fun p hp => ((t1 p hp).ext s2).ext (same_upd nl)⟩
    obtain ⟨l, rfl, eL, fr, xx, tt⟩ := hM
    refine ⟨fun σ H' => ∃ l, σ = [some tv, some b, some x, some (.ref l)] ∧ H' l = some (.lst (List.replicate 2 (.str "wish"))) ∧ FreeN H l ∧ LamX.ExtN H H' ∧ LamX.Tabs T0 H', ?_, fun σ H12 hM => ?_⟩
    · refine ⟨_, rfl, .inl ⟨rfl, _, sq_lst eL⟩, tt, fun H2 x2 t2 => ⟨_, rfl, _, rfl, _, rfl, tv, x, b, ul, wl, goal, [], rfl, tv0.ext (xx.trans x2), lw, .inr ⟨od (xx.trans x2), fun d H3 s3 h3 => ?_⟩⟩⟩
      have t3 : LamX.Tabs T0 H3 := fun p hp => (t2 p hp).ext s3
      obtain ⟨g1, g2, g3⟩ := app (by decide) eL fr xx (x2.trans (ext_of s3)) t3
      exact ⟨d, .str "wish", rfl, rfl, h3, l, _, _, rfl, rfl, g1, g2, g3⟩
    obtain ⟨l, rfl, eL, fr, xx, tt⟩ := hM
    refine ⟨fun σ H' => ∃ l, σ = [some tv, some b, some x, some (.ref l)] ∧ H' l = some (.lst (List.replicate 3 (.str "wish"))) ∧ FreeN H l ∧ LamX.ExtN H H' ∧ LamX.Tabs T0 H', ?_, fun σ H13 hM => ?_⟩
    · refine ⟨_, rfl, .inl ⟨rfl, _, sq_lst eL⟩, tt, fun H2 x2 t2 => ⟨_, rfl, _, rfl, _, rfl, tv, x, b, ul, wl, goal, [], rfl, tv0.ext (xx.trans x2), lw, .inr ⟨od (xx.trans x2), fun d H3 s3 h3 => ?_⟩⟩⟩
      have t3 : LamX.Tabs T0 H3 := fun p hp => (t2 p hp).ext s3
      obtain ⟨g1, g2, g3⟩ := app (by decide) eL fr xx (x2.trans (ext_of s3)) t3
      exact ⟨d, .str "wish", rfl, rfl, h3, l, _, _, rfl, rfl, g1, g2, g3⟩
    obtain ⟨l, rfl, eL, fr, xx, tt⟩ := hM
    refine ⟨fun σ H' => ∃ l, σ = [some tv, some b, some x, some (.ref l)] ∧ H' l = some (.lst (List.replicate 4 (.str "wish"))) ∧ FreeN H l ∧ LamX.ExtN H H' ∧ LamX.Tabs T0 H', ?_, fun σ H14 hM => ?_⟩
    · refine ⟨_, rfl, .inl ⟨rfl, _, sq_lst eL⟩, tt, fun H2 x2 t2 => ⟨_, rfl, _, rfl, _, rfl, tv, x, b, ul, wl, goal, [], rfl, tv0.ext (xx.trans x2), lw, .inr ⟨od (xx.trans x2), fun d H3 s3 h3 => ?_⟩⟩⟩
      have t3 : LamX.Tabs T0 H3 := fun p hp => (t2 p hp).ext s3
      obtain ⟨g1, g2, g3⟩ := app (by decide) eL fr xx (x2.trans (ext_of s3)) t3
      exact ⟨d, .str "wish", rfl, rfl, h3, l, _, _, rfl, rfl, g1, g2, g3⟩
    obtain ⟨l, rfl, eL, fr, xx, tt⟩ := hM
    refine ⟨fun σ H' => ∃ l, σ = [some tv, some b, some x, some (.ref l)] ∧ H' l = some (.lst (List.replicate 5 (.str "wish"))) ∧ FreeN H l ∧ LamX.ExtN H H' ∧ LamX.Tabs T0 H', ?_, fun σ H15 hM => ?_⟩
    · refine ⟨_, rfl, .inl ⟨rfl, _, sq_lst eL⟩, tt, fun H2 x2 t2 => ⟨_, rfl, _, rfl, _, rfl, tv, x, b, ul, wl, goal, [], rfl, tv0.ext (xx.trans x2), lw, .inr ⟨od (xx.trans x2), fun d H3 s3 h3 => ?_⟩⟩⟩
      have t3 : LamX.Tabs T0 H3 := fun p hp => (t2 p hp).ext s3
      obtain ⟨g1, g2, g3⟩ := app (by decide) eL fr xx (x2.trans (ext_of s3)) t3
      exact ⟨d, .str "wish", rfl, rfl, h3, l, _, _, rfl, rfl, g1, g2, g3⟩
    obtain ⟨l, rfl, eL, fr, xx, tt⟩ := hM
    refine ⟨fun σ H' => ∃ l, σ = [some tv, some b, some x, some (.ref l)] ∧ H' l = some (.lst (List.replicate 6 (.str "wish"))) ∧ FreeN H l ∧ LamX.ExtN H H' ∧ LamX.Tabs T0 H', ?_, fun σ H16 hM => ?_⟩
    · refine ⟨_, rfl, .inl ⟨rfl, _, sq_lst eL⟩, tt, fun H2 x2 t2 => ⟨_, rfl, _, rfl, _, rfl, tv, x, b, ul, wl, goal, [], rfl, tv0.ext (xx.trans x2), lw, .inr ⟨od (xx.trans x2), fun d H3 s3 h3 => ?_⟩⟩⟩
      have t3 : LamX.Tabs T0 H3 := fun p hp => (t2 p hp).ext s3
      obtain ⟨g1, g2, g3⟩ := app (by decide) eL fr xx (x2.trans (ext_of s3)) t3
      exact ⟨d, .str "wish", rfl, rfl, h3, l, _, _, rfl, rfl, g1, g2, g3⟩
    obtain ⟨l, rfl, eL, fr, xx, tt⟩ := hM
    refine ⟨_, rfl, one_ok, fun l1 nl1 => ?_⟩
    have k1 := same_upd (o := .lst [.str "wish"]) nl1
    have e1 : upd H16 l1 (.lst [.str "wish"]) l1 = some (.lst [.str "wish"]) := upd_same
    have eL1 := k1 _ _ eL
    refine ⟨l1, 6, _, rfl, rfl, upd_same, by decide, by decide, (by show 1 * 6 ≤ sizeLine; decide), fun l2 nl2 => ?_⟩
    have k2 := same_upd (o := .lst (List.replicate (6 : Int).toNat [V.str "wish"]).flatten) nl2
    refine wish6 (n := 6) (by decide) (k2 _ _ eL1) upd_same (fin _ (xx.trans (ext_of (k1.trans k2))) fun p hp => ((tt p hp).ext k1).ext k2)
end
end M66

namespace M66
open PySem PySem.Spec PyProof.Rows L2 SX Own Gd
open C8 (Cal pe_c pe_gc pe_mk Mak pss_cut)
/-! ### small boxes -/
def sm (x0 x1 x2 x3 x4 x5 x6 x7 x8 x9 x10 x11 x12 x13 x14 x15 : Option V) : L2.St := [x0, x1, x2, x3, x4, x5, x6, x7, x8, x9, x10, x11, x12, x13, x14, x15]
theorem dot_neg : ∀ (a x : List Int), dot (a.map (- ·)) x = -(dot a x)
  | [], _ => rfl
  | _ :: _, [] => rfl
  | c :: a, y :: x => by
    show -c * y + dot (a.map (- ·)) x = -(c * y + dot a x)
    rw [dot_neg a x, Int.neg_mul]; omega
def geR (r : Row) (x : List Int) : Bool := keptR x r
theorem any_pts {rs : List Row} {box : List Fr} {i : Nat} (l : (rowAt rs i).am.length = box.length) (hb : Bx box) : ((ptsT box).map (geR (rowAt rs i))).any id = opP rs box i := by
  rw [List.any_map]
  unfold opP
  rw [Bool.eq_iff_iff, List.any_eq_true, decide_eq_true_iff, ← kp_some l hb]
  constructor
  · rintro ⟨x, hx, h⟩
    exact ⟨x, (mem_pts box).mp hx, of_decide_eq_true h⟩
  · rintro ⟨x, hx, h⟩
    exact ⟨x, (mem_pts box).mpr hx, decide_eq_true h⟩
theorem all_pts {rs : List Row} {box : List Fr} {i : Nat} (l : (rowAt rs i).am.length = box.length) (hb : Bx box) : ((ptsT box).map (geR (rowAt rs i))).all id = sureP rs box i := by
  rw [List.all_map]
  unfold sureP
  have ln : (negR (rowAt rs i)).am.length = box.length := by
    show ((rowAt rs i).am.map (- ·)).length = _
    rw [List.length_map]; exact l
  rw [Bool.eq_iff_iff, List.all_eq_true, decide_eq_true_iff]
  constructor
  · intro h
    have := of_decide_eq_true (h _ ((mem_pts box).mpr (corner_in ln hb)))
    have e := corner_top (a := (negR (rowAt rs i)).am) (box := box) ln
    have d := dot_neg (rowAt rs i).am (corner (negR (rowAt rs i)).am box)
    have d : dot (negR (rowAt rs i)).am (corner (negR (rowAt rs i)).am box) = -(dot (rowAt rs i).am (corner (negR (rowAt rs i)).am box)) := d
    omega
  · intro h x hx
    have t := top_ge (a := (negR (rowAt rs i)).am) ((mem_pts box).mp hx)
    have d : dot (negR (rowAt rs i)).am x = -(dot (rowAt rs i).am x) := dot_neg (rowAt rs i).am x
    exact decide_eq_true (by omega)
def keptP (rs : List Row) (box : List Fr) : List (List Int) := (ptsT box).filter (keptF rs)
theorem mem_kept {rs : List Row} {box : List Fr} {x : List Int} : x ∈ keptP rs box ↔ Ei box rs x := by
  unfold keptP
  rw [List.mem_filter, mem_pts]
  constructor
  · rintro ⟨hx, h⟩
    obtain ⟨r, mr, hr⟩ := List.any_eq_true.mp h
    exact ⟨r, mr, hx, of_decide_eq_true hr⟩
  · rintro ⟨r, mr, hx, h⟩
    exact ⟨hx, List.any_eq_true.mpr ⟨r, mr, decide_eq_true h⟩⟩
/-- the ends of the place k over some points -/
def LsAt (ps : List (List Int)) (k : Nat) (p : Fr) : Prop := (∃ x ∈ ps, x.getD k 0 = p.1) ∧ (∀ x ∈ ps, p.1 ≤ x.getD k 0) ∧ (∃ x ∈ ps, x.getD k 0 = p.2) ∧ ∀ x ∈ ps, x.getD k 0 ≤ p.2
theorem lst_kept {rs : List Row} {box B : List Fr} (l : B.length = box.length) (h : ∀ (k : Nat) p, B[k]? = some p → LsAt (keptP rs box) k p) : Lst (Ei box rs) box.length B := by
  have at_ : ∀ (k : Nat) x, k < box.length → Ei box rs x → x[k]? = some (x.getD k 0) := fun k x hk hx => by
    obtain ⟨r, _, hi, _⟩ := hx
    have := hi.len
    rw [List.getD_eq_getElem?_getD, List.getElem?_eq_getElem (by omega)]; rfl
  refine ⟨l, fun k p e => ?_, fun k p e x c hx ec => ?_⟩
  · have hk : k < box.length := by rw [← l]; exact (List.getElem?_eq_some_iff.mp e).1
    obtain ⟨⟨x, hx, e1⟩, _, ⟨y, hy, e2⟩, _⟩ := h k p e
    exact ⟨⟨x, mem_kept.mp hx, by rw [at_ k x hk (mem_kept.mp hx), e1]⟩, ⟨y, mem_kept.mp hy, by rw [at_ k y hk (mem_kept.mp hy), e2]⟩⟩
  · have hk : k < box.length := by rw [← l]; exact (List.getElem?_eq_some_iff.mp e).1
    obtain ⟨_, a, _, b⟩ := h k p e
    rw [at_ k x hk hx] at ec
    cases ec
    exact ⟨a x (mem_kept.mpr hx), b x (mem_kept.mpr hx)⟩
def dPs (ps : List (List Int)) : PyData := .list (ps.map dI)
theorem layPs : ∀ ps : List (List Int), PyData.canLayAll0 (ps.map dI) = true
  | [] => by simp [PyData.canLayAll0]
  | x :: t => by
    have := layI x
    simp only [List.map_cons, PyData.canLayAll0, dI, PyData.canLay0, this, Bool.true_and]
    exact layPs t
theorem depPs : ∀ ps : List (List Int), PyData.depthAll (ps.map dI) ≤ 3
  | [] => by simp [PyData.depthAll]
  | x :: t => by
    have h1 := depI x
    have h2 := depPs t
    have h3 : (dI x).depth ≤ 2 := by
      unfold dI
      simp only [PyData.depth]; omega
    rw [List.map_cons]
    simp only [PyData.depthAll]
    omega
theorem shpPs (ps : List (List Int)) : SeqAt.shaped (dPs ps) = true := by
  have := depPs ps
  unfold SeqAt.shaped dPs
  rw [Bool.and_eq_true]
  refine ⟨by simp only [PyData.canLay0]; exact layPs ps, decide_eq_true ?_⟩
  simp only [PyData.depth]; omega
theorem eqvPs (ps : List (List Int)) : PyData.eqv (dPs ps) (.list []) = ps.isEmpty := by
  cases ps with
  | nil => simp [dPs, PyData.eqv, PyData.eqvAll]
  | cons x t => simp [dPs, PyData.eqv, PyData.eqvAll]
theorem _root_.Own.HpAt.ext {H H' : Hp} {h q : Addr} (a : HpAt H h q) (s : LamX.ExtN H H') : HpAt H' h q := by
  obtain ⟨cs, st, a⟩ := a
  exact ⟨cs, st, a.ne, s _ _ a.hh (fun ps z => by cases z), s _ _ a.hq (fun ps z => by cases z), a.nn, a.ln, a.s0, a.s1⟩
/-- all but the source of draws and the tables stays -/
def KpN (h q : Addr) (H H' : Hp) : Prop := ∀ b o, H b = some o → b ≠ h → b ≠ q → (∀ ps, o ≠ .tbl ps) → H' b = some o
theorem KpN.of {h q : Addr} {H H1 H2 : Hp} (k : Kpt h q H H1) (x : LamX.ExtN H1 H2) : KpN h q H H2 := fun b o e n1 n2 n3 => x b o (k b o e n1 n2) n3
theorem KpN.trans {h q : Addr} {H H1 H2 : Hp} (a : KpN h q H H1) (b : KpN h q H1 H2) : KpN h q H H2 := fun c o e n1 n2 n3 => b c o (a c o e n1 n2 n3) n1 n2 n3
def dFirst : List Nat → PyData
  | [] => .none
  | i :: _ => .int (i : Nat)
theorem first_shown {K : PySem.W.Frag} {H : Hp} {su : List Nat} (h : ∀ i ∈ su, i ≤ 6) : Dp K H (firstV su) (dFirst su) ∧ Shw 60 1000000 (dFirst su) ∧ ((∃ a, firstV su = .ref a) ∨ firstV su = .non ∨ ∃ i, firstV su = .int i) := by
  cases su with
  | nil => exact ⟨.non, Shw.none.mono (by decide) (by decide), .inr (.inl rfl)⟩
  | cons i t => exact ⟨.int _, (Shw.int (Nat.lt_of_le_of_lt (show ((i : Nat) : Int).natAbs ≤ 6 by have := h i (by simp); omega) (by decide))).mono (by decide) (by decide), .inr (.inr ⟨_, rfl⟩)⟩
theorem first_at (su : List Nat) : atI ((natI su).map V.int ++ [V.non]) 0 = some (firstV su) := by
  cases su with
  | nil => rfl
  | cons i t => exact atI_nat (j := 0) rfl
theorem natI_succ {f : Nat → Bool} {i : Nat} : natI ((List.range (i + 1)).filter f) = natI ((List.range i).filter f) ++ (if f i = true then [(i : Int)] else []) := by
  unfold natI
  rw [filter_range_succ, List.map_append]
  split <;> rfl
section
variable {P : Program} {w : World} {K : PySem.W.Frag} {mg : Str → Option Value} {base : Heap} {aW aT : Addr} {es : Array DictEntry} {nn : Nat}
abbrev s_Lsmall_right : Stmt := topS 62
abbrev n_Lsmall_right : List Str := ["heap", "size", "many", "box", "at", "low", "task", "number", "sums", "points", "opened", "kept", "least", "sure", "values", "point"]
theorem sc_Lsmall_right : FnScope n_Lsmall_right ["heap", "size", "many"] (defScope s_Lsmall_right) := ⟨rfl, rfl, rfl, by decide +kernel, rfl, by decide +kernel, by decide +kernel⟩
def spSmall (T : List (Addr × Str)) : Sp := fun vs H Q _ => ∃ (h q : Addr) (size : Nat) (n : Int), vs = [.ref h, .int size, .int n] ∧ HpAt H h q ∧ 1 ≤ size ∧ size ≤ 3 ∧ 2 ≤ n ∧ n ≤ 6 ∧ LamX.Tabs T H ∧ ∀ H', HpAt H' h q → KpN h q H H' → LamX.Tabs T H' → Q (.bl true) H'
theorem ok_Lsmall_right {f C CR : Addr} {T0 : List (Addr × Str)} {fd : FuncData} (F : Fun K "_law_small_right" "_law_small_right" s_Lsmall_right f fd) (T : Txt K mg w aW aT es nn) (cc : CC K C) (c_Ldraw : Cal P w K mg base 1 "_law_draw" spDraw []) (c_Lpick : Cal P w K mg base 2 "_law_pick" spPickL []) (c_Lworld : Cal P w K mg base 11 "_law_world" (spWorld C) []) (c_Lpoints : Cal P w K mg base 1 "_law_points" spPoints []) (c_Ltotal : Cal P w K mg base 1 "_law_total" spTotal []) (c_Lkept : Cal P w K mg base 2 "_law_kept" spKept [])
    (k_sure_sum_box_number_task : CalK P w K mg base 7 "sure_sum" ["box", "number", "task"] List.reverse (spSure C CR)) (c_Lleft_right : CalG P w K mg base 10 "_law_left_right" (spLeftRight C)) (c_Ldrawn_right : CalG P w K mg base 10 "_law_drawn_right" (spDrawnRight C)) (c_Lrefused : Cal P w K mg base 12 "_law_refused" (spRefused T0 C) []) : FnG P w K mg base CX0 14 f fd ["heap", "size", "many"] (spSmall T0) := by
  refine fun_okG F sc_Lsmall_right (fun vs H Q E h => ?_) (fun cdv A outer s H vs Q E hgd hr h => ?_)
  · obtain ⟨h, q, size, n, rfl, _⟩ := h
    rfl
  · obtain ⟨h, q, size, n, rfl, a0, s1, s3, n2, n6, ht, fin⟩ := h
    refine ⟨_, (pss_cons (ps_set (i := 3) sc_Lsmall_right.nd rfl (.inl rfl) (pe_lst pa_nil))
      (pss_cons (ps_for PassesOwn.never rfl (pi_range1 (by rfl) T.b_range (pa_cons (pv 1) pa_nil)) (pg_name (i := 4) sc_Lsmall_right.nd rfl (.inl rfl)) (pss_cons (ps_set (i := 5) sc_Lsmall_right.nd rfl (.inl rfl) (pe_op op_sub (pe_c c_Ldraw hr (by decide) (by rfl) (pa_cons (pv 0) (pa_cons pe_int pa_nil))) pe_int))
        (pss_one (ps_expr (pe_bm PySem.F.plainAttrs_list PySem.F.slot_list_append PySem.F.type_list_append mt_append (pv 3) (pa_cons (pe_tup (pa_cons (pv 5) (pa_cons (pe_op op_add (pv 5) (pe_c c_Lpick hr (by decide) (by rfl) (pa_cons (pv 0) (pa_cons (pe_lst (pa_cons pe_int (pa_cons pe_int (pa_cons pe_int (pa_cons pe_int (pa_cons pe_int pa_nil)))))) pa_nil)))) pa_nil))) pa_nil))))))
      (pss_cons (ps_set (i := 3) sc_Lsmall_right.nd rfl (.inl rfl) (pe_callTy call_tuple_of (by rfl) T.b_tuple (by decide +kernel) (pa_cons (pv 3) pa_nil)))
      (pss_cons (ps_asg (pe_c c_Lworld hr (by decide) (by rfl) (pa_cons (pv 0) (pa_cons (pv 3) (pa_cons (pv 2) (pa_cons pe_int pa_nil))))) (pg_tup rfl (pgs_cons (pg_name (i := 6) sc_Lsmall_right.nd rfl (.inl rfl)) (pgs_cons (pg_name (i := 7) sc_Lsmall_right.nd rfl (.inl rfl)) pgs_nil))))
      (pss_cons (ps_asg (pe_tup (pa_cons (pe_ix ix_tup (pe_ix ix_tup (pe_fld (pv 6) (by rfl)) (pv 7) (fun _ _ => rfl)) pe_int (fun _ _ => rfl)) (pa_cons (pe_c c_Lpoints hr (by decide) (by rfl) (pa_cons (pv 3) pa_nil)) pa_nil))) (pg_tup rfl (pgs_cons (pg_name (i := 8) sc_Lsmall_right.nd rfl (.inr rfl)) (pgs_cons (pg_name (i := 9) sc_Lsmall_right.nd rfl (.inr rfl)) pgs_nil))))
      (pss_cut (ps_set (i := 10) sc_Lsmall_right.nd rfl (.inl rfl) (pe_callTy call_tuple_of (by rfl) T.b_tuple (by decide +kernel) (pa_cons (pe_lc (own := [("at", 4)]) rfl sc_Lsmall_right.nd (pi_range1 (by rfl) T.b_range (pa_cons (pv 2) pa_nil)) (blkOk_by (N := n_Lsmall_right) (sc := defScope s_Lsmall_right) (by decide +kernel)) (fun _ _ _ _ _ => (pg_name (i := 4) sc_Lsmall_right.nd rfl (.inr rfl))) (fun _ _ _ _ _ => (pts_one (pt_val (pe_callB (id := "any") (r := rAny K) (cr_any rfl) (by rfl) T.b_any (by decide +kernel) (pa_cons (pe_lc (own := [("point", 15)]) (wi := iList K (tVar 9)) rfl sc_Lsmall_right.nd (pi_list (pv 9)) (blkOk_by (own := [("point", 15)]) (scope := { kind := .function, names := [(".0", .local), ("point", .local), ("_law_total", .globalImplicit), ("at", .free), ("sums", .free)], isGenerator := false, isCoroutine := false }) (N := n_Lsmall_right) (sc := { kind := .function, names := [(".0", .local), ("at", .cell), ("any", .globalImplicit), ("points", .cell), ("sums", .cell)], isGenerator := false, isCoroutine := false }) (by decide +kernel)) (fun _ _ _ _ _ => (pg_name (i := 15) sc_Lsmall_right.nd rfl (.inl rfl))) (fun _ _ _ _ _ => pts_nil) (fun _ _ _ _ _ => (pe_cmpR op_ge (pe_c c_Ltotal hr (by decide) (by rfl) (pa_cons (pe_ix (r := rIxT K) ix_tup (pe_ix (r := rIxT K) ix_tup (pv 8) (pv 4) (fun _ _ => rfl)) pe_int (fun _ _ => rfl)) (pa_cons (pv 15) pa_nil))) (pe_ix (r := rIxT K) ix_tup (pe_ix (r := rIxT K) ix_tup (pv 8) (pv 4) (fun _ _ => rfl)) pe_int (fun _ _ => rfl)) (nomark _)))) pa_nil))))) (fun _ _ _ _ _ => (pv 4))) pa_nil)))
      (pss_cut (ps_asg (pe_tup (pa_cons (pe_lc (own := [("point", 15)]) rfl sc_Lsmall_right.nd (pi_list (pv 9)) (blkOk_by (N := n_Lsmall_right) (sc := defScope s_Lsmall_right) (by decide +kernel)) (fun _ _ _ _ _ => (pg_name (i := 15) sc_Lsmall_right.nd rfl (.inl rfl))) (fun _ _ _ _ _ => (pts_one (pt_val (pe_c c_Lkept hr (by decide) (by rfl) (pa_cons (pv 8) (pa_cons (pv 15) pa_nil)))))) (fun _ _ _ _ _ => (pv 15))) (pa_cons pe_non pa_nil))) (pg_tup rfl (pgs_cons (pg_name (i := 11) sc_Lsmall_right.nd rfl (.inr rfl)) (pgs_cons (pg_name (i := 12) sc_Lsmall_right.nd rfl (.inl rfl)) pgs_nil))))
      (pss_cut (ps_if (pt_cmpR (op_neD hr.units) (pv 11) (pe_lst pa_nil) (nomark _)) (pss_one (ps_set (i := 12) sc_Lsmall_right.nd rfl (.inl rfl) (pe_callTy call_tuple_of (by rfl) T.b_tuple (by decide +kernel) (pa_cons (pe_lc (own := [("at", 4)]) rfl sc_Lsmall_right.nd (pi_range1 (by rfl) T.b_range (pa_cons (pv 1) pa_nil)) (blkOk_by (N := n_Lsmall_right) (sc := defScope s_Lsmall_right) (by decide +kernel)) (fun _ _ _ _ _ => (pg_name (i := 4) sc_Lsmall_right.nd rfl (.inr rfl))) (fun _ _ _ _ _ => pts_nil) (fun _ _ _ _ _ => (pe_tup (pa_cons (pe_callB (id := "min") (r := rMin K) (cr_min rfl) (by rfl) T.b_min (by decide +kernel) (pa_cons (pe_lc (own := [("point", 15)]) (wi := iList K (tVar 11)) rfl sc_Lsmall_right.nd (pi_list (pv 11)) (blkOk_by (own := [("point", 15)]) (scope := { kind := .function, names := [(".0", .local), ("point", .local), ("at", .free)], isGenerator := false, isCoroutine := false }) (N := n_Lsmall_right) (sc := { kind := .function, names := [(".0", .local), ("at", .cell), ("min", .globalImplicit), ("max", .globalImplicit), ("kept", .cell)], isGenerator := false, isCoroutine := false }) (by decide +kernel)) (fun _ _ _ _ _ => (pg_name (i := 15) sc_Lsmall_right.nd rfl (.inl rfl))) (fun _ _ _ _ _ => pts_nil) (fun _ _ _ _ _ => (pe_ix (r := rIxT K) ix_tup (pv 15) (pv 4) (fun _ _ => rfl)))) pa_nil)) (pa_cons (pe_callB (id := "max") (r := rMax K) (cr_max rfl) (by rfl) T.b_max (by decide +kernel) (pa_cons (pe_lc (own := [("point", 15)]) (wi := iList K (tVar 11)) rfl sc_Lsmall_right.nd (pi_list (pv 11)) (blkOk_by (own := [("point", 15)]) (scope := { kind := .function, names := [(".0", .local), ("point", .local), ("at", .free)], isGenerator := false, isCoroutine := false }) (N := n_Lsmall_right) (sc := { kind := .function, names := [(".0", .local), ("at", .cell), ("min", .globalImplicit), ("max", .globalImplicit), ("kept", .cell)], isGenerator := false, isCoroutine := false }) (by decide +kernel)) (fun _ _ _ _ _ => (pg_name (i := 15) sc_Lsmall_right.nd rfl (.inl rfl))) (fun _ _ _ _ _ => pts_nil) (fun _ _ _ _ _ => (pe_ix (r := rIxT K) ix_tup (pv 15) (pv 4) (fun _ _ => rfl)))) pa_nil)) pa_nil))))) pa_nil)))) pss_nil)
      (pss_cut (ps_setLc (i := 13) (own := [("at", 4)]) rfl sc_Lsmall_right.nd rfl rfl (sw_true rfl rfl rfl (by decide +kernel)) (pi_range1 (by rfl) T.b_range (pa_cons (pv 2) pa_nil)) (blkOk_by (N := n_Lsmall_right) (sc := defScope s_Lsmall_right) (by decide +kernel)) (fun _ _ _ _ _ => (pg_name (i := 4) sc_Lsmall_right.nd rfl (.inr rfl))) (fun _ _ _ _ _ => (pts_one (pt_val (pe_callB (id := "all") (r := rAll K) (cr_all rfl) (by rfl) T.b_all (by decide +kernel) (pa_cons (pe_lc (own := [("point", 15)]) (wi := iList K (tVar 9)) rfl sc_Lsmall_right.nd (pi_list (pv 9)) (blkOk_by (own := [("point", 15)]) (scope := { kind := .function, names := [(".0", .local), ("point", .local), ("_law_total", .globalImplicit), ("at", .free), ("sums", .free)], isGenerator := false, isCoroutine := false }) (N := n_Lsmall_right) (sc := { kind := .function, names := [(".0", .local), ("at", .cell), ("all", .globalImplicit), ("points", .cell), ("sums", .cell)], isGenerator := false, isCoroutine := false }) (by decide +kernel)) (fun _ _ _ _ _ => (pg_name (i := 15) sc_Lsmall_right.nd rfl (.inl rfl))) (fun _ _ _ _ _ => pts_nil) (fun _ _ _ _ _ => (pe_cmpR op_ge (pe_c c_Ltotal hr (by decide) (by rfl) (pa_cons (pe_ix (r := rIxT K) ix_tup (pe_ix (r := rIxT K) ix_tup (pv 8) (pv 4) (fun _ _ => rfl)) pe_int (fun _ _ => rfl)) (pa_cons (pv 15) pa_nil))) (pe_ix (r := rIxT K) ix_tup (pe_ix (r := rIxT K) ix_tup (pv 8) (pv 4) (fun _ _ => rfl)) pe_int (fun _ _ => rfl)) (nomark _)))) pa_nil))))) (fun _ _ _ _ _ => (pv 4)))
      (pss_cons (ps_if (pt_cmpR op_ne (pe_callB (call_showX hgd hr.units) (by rfl) T.b_repr (by decide +kernel) (pa_cons (pe_kw k_sure_sum_box_number_task hr (by decide) (by rfl) (pk_cons (pv 3) (pk_cons (pv 7) (pk_cons (pv 6) pk_nil)))) pa_nil)) (pe_callB (call_showX hgd hr.units) (by rfl) T.b_repr (by decide +kernel) (pa_cons (pe_ix ix_list (pe_op op_cat (pv 13) (pe_lst (pa_cons pe_non pa_nil))) pe_int (fun _ _ => rfl)) pa_nil)) (nomark _)) (pss_one (ps_ret pe_bl)) pss_nil)
      (pss_cons (ps_if (PW.pt (pw_or (pt_not (pt_val (pe_cG hgd c_Lleft_right hr (by decide) (by rfl) (pa_cons (pv 6) (pa_cons (pv 7) (pa_cons (pv 3) (pa_cons (pv 10) pa_nil))))))) (pw_or1 (pt_not (pt_val (pe_cG hgd c_Ldrawn_right hr (by decide) (by rfl) (pa_cons (pv 6) (pa_cons (pv 7) (pa_cons (pv 3) (pa_cons (pv 12) pa_nil)))))))))) (pss_one (ps_ret pe_bl)) pss_nil)
      (pss_cons (ps_set (i := 14) sc_Lsmall_right.nd rfl (.inl rfl) (pe_lst (pa_cons pe_non (pa_cons (pe_op op_sub pe_int pe_int) (pa_cons (pe_callB call_len_seq (by rfl) T.b_len (by decide +kernel) (pa_cons (pe_fld (pv 6) (by rfl)) pa_nil)) (pa_cons pe_bl (pa_cons pe_str (pa_cons (pe_tup (pa_cons (pv 7) pa_nil)) (pa_cons (pe_op op_add (pv 7) pe_int) (pa_cons (pe_ifExp (pt_cmpR op_gt (pv 7) pe_int (nomark _)) pe_int pe_int) (pa_cons pe_bl pa_nil)))))))))))
      (pss_one (ps_ret (pe_c c_Lrefused hr (by decide) (by rfl) (pa_cons (pv 6) (pa_cons (pv 3) (pa_cons (pe_c c_Lpick hr (by decide) (by rfl) (pa_cons (pv 0) (pa_cons (pv 14) pa_nil))) pa_nil)))))))))))))))))), ?_⟩
    refine ⟨nil_ok, fun L nL => ?_⟩
    obtain ⟨La, Lb⟩ := a0.fresh nL
    have kL := same_upd (o := .lst []) nL
    have eL : upd H L (.lst []) L = some (.lst []) := upd_same
    have a1 := a0.same kL
    have kp1 : Kpt h q H (upd H L (.lst [])) := .of_same kL
    generalize upd H L (.lst []) = H1 at *
    refine ⟨_, rfl, (size : Int), rfl, by omega, by omega, for_range (lo := 0) (n := ((size : Nat) : Int).toNat) (fun i σ H' => ∃ us bx y4 y5, σ = sm (some (.ref h)) (some (.int (size : Nat))) (some (.int n)) (some (.ref L)) y4 y5 none none none none none none none none none none ∧ H' L = some (.lst us) ∧ All2 (FV H') us bx ∧ bx.length = i ∧ Nar bx ∧ HpAt H' h q ∧ Kpt h q H H')
      ⟨[], [], none, none, rfl, eL, .nil, rfl, (fun p hp => by cases hp), a1, kp1⟩ (fun i σ H2 hi hI => ?_) (fun σ H2 hI => ?_)⟩
    · obtain ⟨us, bx, y4, y5, rfl, eL2, al, lb, nar, a2, kp2⟩ := hI
      rw [Int.toNat_natCast] at hi
      refine ⟨_, rfl, h, q, 9, rfl, a2, by decide, by decide, fun x H3 x0 x1 a3 kp3 => ⟨_, _, rfl, rfl, ?_⟩⟩
      have eL3 := kp3 _ _ eL2 La Lb
      refine ⟨_, rfl, .inl ⟨rfl, _, sq_lst eL3⟩, _, rfl, _, rfl, _, rfl, (by show 5 ≤ sizeLine; decide), fun pk npk => ?_⟩
      have kq := same_upd (o := .lst ([4, 2, 3, 0, 1].map V.int)) npk
      obtain ⟨f1, f2⟩ := a3.fresh npk
      refine ⟨h, q, pk, [4, 2, 3, 0, 1].map V.int, rfl, a3.same kq, upd_same, f1, f2, by simp, by show 5 ≤ 1000; decide, fun v H6 mv a6 kp6 => ?_⟩
      obtain ⟨c, hc, rfl⟩ := int_of mv
      have bc : 0 ≤ c ∧ c ≤ 4 := by
        have : ∀ c ∈ ([4, 2, 3, 0, 1] : List Int), 0 ≤ c ∧ c ≤ 4 := by decide
        exact this c hc
      refine ⟨_, _, rfl, rfl, len2, fun pn npn => ?_⟩
      have kp36 := (Kpt.of_same (h := h) (q := q) kq).trans kp6
      have kn := same_upd (o := .tup [.int (x - 4), .int (x - 4 + c)]) npn
      have hn : upd H6 pn (.tup [.int (x - 4), .int (x - 4 + c)]) pn = some (.tup [.int (x - 4), .int (x - 4 + c)]) := upd_same
      have eL7 := kn _ _ (kp36 _ _ eL3 La Lb)
      have lu := al.len
      have tk7 : TK H2 (upd H6 pn (.tup [.int (x - 4), .int (x - 4 + c)])) := (TK.kp (kp3.trans kp36) a2).trans (.of kn)
      have a7 := a6.same kn
      have kp7 : Kpt h q H (upd H6 pn (.tup [.int (x - 4), .int (x - 4 + c)])) := ((kp2.trans kp3).trans kp36).trans (.of_same kn)
      have tk8 := TK.put (o := .lst (us ++ [.ref pn])) eL7
      refine ⟨L, us, .ref pn, rfl, rfl, eL7, small1000 (by omega), us ++ [.ref pn], bx ++ [(x - 4, x - 4 + c)], _, _, rfl, upd_same, (al.mono fun v f g => g.tk (tk7.trans tk8)).app ⟨pn, rfl, tk8 _ _ hn⟩, by rw [List.length_append, lb]; rfl, fun p hp => ?_, a7.upd La Lb, kp7.at_new nL⟩
      rcases List.mem_append.mp hp with e | e
      · exact nar p e
      · rw [List.mem_singleton.mp e]
        exact ⟨by show x - 4 ≤ x - 4 + c; omega, by show x - 4 + c ≤ x - 4 + 4; omega, by show -100 ≤ x - 4; omega, by show x - 4 ≤ 100; omega⟩
    obtain ⟨us, box, y4, y5, rfl, eL2, al, lb, nar, a2, kp2⟩ := hI
    rw [Int.toNat_natCast] at lb
    refine ⟨_, rfl, L, _, rfl, .inl ⟨sq_lst eL2, fun pb npb => ?_⟩⟩
    have kb := same_upd (o := .tup us) npb
    have bv : SV (upd H2 pb (.tup us)) (.ref pb) box := ⟨pb, us, rfl, upd_same, al.mono fun v f g => g.same kb⟩
    have a3 := a2.same kb
    have kp3 : Kpt h q H (upd H2 pb (.tup us)) := kp2.trans (.of_same kb)
    show gName 3 (.ref pb) _ (upd H2 pb (.tup us)) _
    generalize upd H2 pb (.tup us) = H3 at *
    clear kL eL a1 kp1 eL2 al a2 kp2 kb
    refine ⟨_, rfl, _, rfl, _, rfl, h, q, .ref pb, box, n, 4, rfl, a3, bv, by omega, by omega, fun p hp => by have := nar p hp; omega, n2, n6, by decide, by decide, fun H4 v tv k rs ul wl goal a4 kp4 pr te lrs => ?_⟩
    obtain ⟨pt, rfl, hpt⟩ := pr
    have tt4 := tabs_kp ht a0 (kp3.trans kp4)
    have bv4 := bv.tk (TK.kp kp4 a3)
    obtain ⟨xa, dx, pu, pw, pg, uus, ws, rfl, hx, hpu, uv, hpw, wv, hpg⟩ := id te.tv
    obtain ⟨vw, hv, wvv⟩ := wv.at2 te.at_
    obtain ⟨pe, u, rfl, hp, rv⟩ := id wvv
    obtain ⟨ps, us2, rfl, hps, als⟩ := id rv
    refine ⟨pt, _, rfl, sq_tup hpt, rfl, _, _, rfl, _, _, rfl, rfl, ?_⟩
    refine ⟨_, rfl, xa, C, dx, _, _, rfl, hx, cc.cl, cc.nw, lk_w _ _ _, _, rfl, pw, _, (k : Int), .ref pe, rfl, rfl, sq_tup hpw, atI_nat hv, pe, _, 1, .ref ps, rfl, rfl, sq_tup hp, rfl, _, rfl, .ref pb, box, rfl, bv4, nar, by omega, fun H5 vp s5 pp => ?_⟩
    obtain ⟨PP, pus, rfl, hPP, alP⟩ := pp
    refine ⟨len2, fun t2 nt2 => ?_⟩
    have kt2 := same_upd (o := .tup [.ref ps, .ref PP]) nt2
    have ht2 : upd H5 t2 (.tup [.ref ps, .ref PP]) t2 = some (.tup [.ref ps, .ref PP]) := upd_same
    have s46 := s5.trans kt2
    have te6 := te.tk_same s46
    have bv6 := bv4.same s46
    have rv6 := rv.same s46
    have hps6 := s46 _ _ hps
    have hPP6 := kt2 _ _ hPP
    have alP6 : All2 (LV (upd H5 t2 (.tup [.ref ps, .ref PP]))) pus (ptsT box) := alP.mono fun v x g => LV.same g kt2
    have als6 : All2 (RV (upd H5 t2 (.tup [.ref ps, .ref PP]))) us2 rs := als.mono fun v r g => g.same s46
    have a6 : HpAt (upd H5 t2 (.tup [.ref ps, .ref PP])) h q := (a4.same s5).same kt2
    have tt6 : LamX.Tabs T0 (upd H5 t2 (.tup [.ref ps, .ref PP])) := fun p hp => ((tt4 p hp).ext s5).ext kt2
    show gTup _ _ _ (.ref t2) _ (upd H5 t2 (.tup [.ref ps, .ref PP])) _
    generalize upd H5 t2 (.tup [.ref ps, .ref PP]) = H6 at *
    have lpus := alP6.len
    have lpt := pts_len box nar (by omega)
    have hb : Bx box := fun p hp => (nar p hp).1
    have okr : RsOk rs box.length := ⟨by omega, fun r hr => ⟨(te.ok r hr).len, (te.ok r hr).am⟩⟩
    have kp06 := (kp3.trans kp4).trans (.of_same s46)
    clear a4 tt4 bv4 rv als alP hx hpu uv hpw wv hpg wvv hp hps s5 kt2 hPP hpt kp4 a3 bv kp3
    refine ⟨t2, _, rfl, sq_tup ht2, rfl, _, _, rfl, _, _, rfl, rfl, ?_⟩
    -- the open sums
    refine ⟨fun σ H' => ∃ ov, σ = sm (some (.ref h)) (some (.int (size : Nat))) (some (.int n)) (some (.ref pb)) y4 y5 (some (.ref xa)) (some (.int (k : Nat))) (some (.ref ps)) (some (.ref PP)) (some ov) none none none none none ∧ LV H' ov (natI (opn rs box)) ∧ Same H6 H', ?_, fun σ H7 hM => ?_⟩
    · refine ⟨_, rfl, n, rfl, by omega, by omega, fun D nD => ?_⟩
      refine lc_range (lo := 0) (n := n.toNat) (fun i H' => H' D = some (tL (natI ((List.range i).filter (opP rs box)))) ∧ Same H6 H') ⟨upd_same, same_upd nD⟩ (fun i H7 hi hI => ?_) (fun H7 hI => ?_)
      · obtain ⟨hD, s7⟩ := hI
        have hi2 : i < rs.length := by omega
        rw [show ((0 : Int) + (i : Nat)) = (i : Int) by omega]
        obtain ⟨u, hu, pr, qa, rfl, hpr, hqa⟩ := als6.at2 (row_get hi2)
        obtain ⟨lr, ar⟩ := okr.2 _ (List.mem_of_getElem? (row_get hi2))
        refine ⟨rfl, ?_⟩
        refine ⟨_, rfl, PP, rfl, ⟨_, sq_lst (s7 _ _ hPP6)⟩, fun D2 nD2 => ?_⟩
        refine lc_list (K := K) (a := PP) (xs := pus) (fun j H' => H' D2 = some (.lst ((((ptsT box).take j).map (geR (rowAt rs i))).map V.bl)) ∧ Same H7 H') ⟨upd_same, same_upd nD2⟩ (fun j H' _ hh => sq_lst (hh.2 _ _ (s7 _ _ hPP6))) ?_ ?_
        · rintro j v H8 hv ⟨hD2, s8⟩
          obtain ⟨x, hx, xv⟩ := alP6.at_ hv
          have xl := pts_at_len (List.mem_of_getElem? hx)
          have s68 := s7.trans s8
          have lj := (List.getElem?_eq_some_iff.mp hx).1
          refine ⟨rfl, _, rfl, _, rfl, ps, _, (i : Int), .ref pr, rfl, rfl, sq_tup (s68 _ _ hps6), atI_nat hu, pr, _, 1, .ref qa, rfl, rfl, sq_tup (s68 _ _ hpr), rfl, _, rfl, .ref qa, v, (rowAt rs i).am, x, rfl, ⟨qa, rfl, s68 _ _ hqa⟩, xv.same s68, by omega, by omega, ar, fun H9 s9 => ?_⟩
          have s69 := s68.trans s9
          refine ⟨_, rfl, _, rfl, ps, _, (i : Int), .ref pr, rfl, rfl, sq_tup (s69 _ _ hps6), atI_nat hu, pr, _, 3, _, rfl, rfl, sq_tup (s69 _ _ hpr), rfl, _, _, rfl, rfl, _, s9 _ _ hD2, small1000 (by rw [List.length_map, List.length_map, List.length_take]; omega), ?_, same_at (s8.trans s9) nD2⟩
          rw [upd_same, take_one hx, List.map_append, List.map_append]; rfl
        rintro H8 ⟨hD2, s8⟩
        rw [lpus, List.take_length] at hD2
        refine ⟨D2, _, rfl, sq_lst hD2, ?_⟩
        rw [any_pts lr hb]
        have s78 := s7.trans s8
        have e8 := s8 _ _ hD
        refine ⟨_, rfl, ite2 (fun z => ?_) (fun z => ?_)⟩
        · refine ⟨_, rfl, _, e8, small1000 (by unfold natI; rw [List.length_map, List.length_map]; have := List.length_filter_le (opP rs box) (List.range i); rw [List.length_range] at this; omega), ?_, same_at s78 nD⟩
          rw [upd_same, natI_succ, if_pos z]
          unfold tL
          rw [List.map_append]; rfl
        · refine ⟨?_, s78⟩
          rw [e8, natI_succ, if_neg z, List.append_nil]
      · obtain ⟨hD, s7⟩ := hI
        refine ⟨D, _, rfl, .inl ⟨sq_lst hD, fun l nl => ?_⟩⟩
        have kl := same_upd (o := .tup ((natI (opn rs box)).map V.int)) nl
        have e : n.toNat = rs.length := by omega
        refine ⟨.ref l, ?_, ⟨l, rfl, ?_⟩, s7.trans ?_⟩
        · rfl
        · rw [e, upd_same]; rfl
        · rw [e]; exact kl
    obtain ⟨ov, rfl, lo, s7⟩ := hM
    -- the points that keep the either
    refine ⟨fun σ H' => ∃ KL, σ = sm (some (.ref h)) (some (.int (size : Nat))) (some (.int n)) (some (.ref pb)) y4 y5 (some (.ref xa)) (some (.int (k : Nat))) (some (.ref ps)) (some (.ref PP)) (some ov) (some (.ref KL)) (some .non) none none none ∧ (∃ kus, H' KL = some (.lst kus) ∧ All2 (LV H') kus (keptP rs box)) ∧ Same H7 H', ?_, fun σ H8 hM => ?_⟩
    · refine ⟨_, rfl, PP, rfl, ⟨_, sq_lst (s7 _ _ hPP6)⟩, fun D nD => ?_⟩
      refine lc_list (K := K) (a := PP) (xs := pus) (fun j H' => ∃ kus, H' D = some (.lst kus) ∧ All2 (LV H') kus (((ptsT box).take j).filter (keptF rs)) ∧ Same H7 H') ⟨[], upd_same, .nil, same_upd nD⟩ (fun j H' _ hh => by obtain ⟨_, _, _, s⟩ := hh; exact sq_lst (s _ _ (s7 _ _ hPP6))) ?_ ?_
      · rintro j v H8 hv ⟨kus, hD, alk, s8⟩
        obtain ⟨x, hx, xv⟩ := alP6.at_ hv
        have xl := pts_at_len (List.mem_of_getElem? hx)
        have s68 := s7.trans s8
        have lj := (List.getElem?_eq_some_iff.mp hx).1
        refine ⟨rfl, _, rfl, _, rfl, .ref ps, v, rs, x, rfl, rv6.same s68, xv.same s68, by omega, by rw [xl]; exact okr, fun H9 s9 => ⟨_, rfl, ite2 (fun z => ?_) (fun z => ?_)⟩⟩
        · have lk := alk.len
          have lf := List.length_filter_le (keptF rs) ((ptsT box).take j)
          rw [List.length_take] at lf
          have hD9 := s9 _ _ hD
          have tk : TK H9 (upd H9 D (.lst (kus ++ [v]))) := TK.put hD9
          refine ⟨_, rfl, kus, hD9, small1000 (by omega), kus ++ [v], upd_same, ?_, same_at (s8.trans s9) nD⟩
          rw [take_one hx, List.filter_append, show [x].filter (keptF rs) = [x] from by rw [List.filter_cons, if_pos z]; rfl]
          exact (alk.mono fun v y g => (LV.same g s9).tk tk).app ((xv.same (s68.trans s9)).tk tk)
        · refine ⟨kus, s9 _ _ hD, ?_, s8.trans s9⟩
          rw [take_one hx, List.filter_append, show [x].filter (keptF rs) = [] from by rw [List.filter_cons, if_neg z]; rfl, List.append_nil]
          exact alk.mono fun v y g => LV.same g s9
      rintro H8 ⟨kus, hD, alk, s8⟩
      rw [lpus, List.take_length] at alk
      refine ⟨len2, fun t3 nt3 => ?_⟩
      have k3 := same_upd (o := .tup [.ref D, .non]) nt3
      exact ⟨t3, _, rfl, sq_tup upd_same, rfl, _, _, rfl, _, _, rfl, rfl, D, rfl, ⟨kus, k3 _ _ hD, alk.mono fun v y g => LV.same g k3⟩, s8.trans k3⟩
    obtain ⟨KL, rfl, ⟨kus, eK, alk⟩, s8⟩ := hM
    have lk := alk.len
    have lf : (keptP rs box).length ≤ 125 := Nat.le_trans (List.length_filter_le ..) lpt
    -- the least box
    refine ⟨fun σ H' => ∃ lv, σ = sm (some (.ref h)) (some (.int (size : Nat))) (some (.int n)) (some (.ref pb)) y4 y5 (some (.ref xa)) (some (.int (k : Nat))) (some (.ref ps)) (some (.ref PP)) (some ov) (some (.ref KL)) (some lv) none none none ∧ ((lv = .non ∧ ¬ ∃ x, Ei box rs x) ∨ ∃ B, SV H' lv B ∧ Lst (Ei box rs) box.length B) ∧ Same H8 H', ?_, fun σ H9 hM => ?_⟩
    · refine ⟨_, rfl, nil_ok, fun e0 ne0 => ?_⟩
      have ke := same_upd (o := .lst []) ne0
      refine ⟨dPs (keptP rs box), .list [], .lst (sq_lst (ke _ _ eK)) (dpAll2 (fun v x g => dpI g) (alk.mono fun v x g => LV.same g ke)), .lst (sq_lst upd_same) .nil, shpPs _, by decide +kernel, _, rfl, ?_⟩
      generalize upd H8 e0 (.lst []) = HE at *
      rw [eqvPs]
      refine ite2 (fun z => ?_) (fun z => ?_)
      · have ne : keptP rs box ≠ [] := fun e => by rw [e] at z; cases z
        have kp0 : 0 < (keptP rs box).length := Nat.pos_of_ne_zero fun e => ne (List.eq_nil_of_length_eq_zero e)
        have eKE := ke _ _ eK
        have alE := alk.mono fun v x g => LV.same g ke
        refine ⟨_, rfl, (size : Int), rfl, by omega, by omega, fun D nD => ?_⟩
        refine lc_range (lo := 0) (n := ((size : Nat) : Int).toNat) (fun i H' => ∃ us B, H' D = some (.lst us) ∧ All2 (FV H') us B ∧ B.length = i ∧ (∀ (k : Nat) p, B[k]? = some p → LsAt (keptP rs box) k p) ∧ Same HE H') ⟨[], [], upd_same, .nil, rfl, fun k p e => by simp at e, same_upd nD⟩ (fun i HF hi hI => ?_) (fun HF hI => ?_)
        · obtain ⟨us, B, hD, al, lB, hB, sF⟩ := hI
          rw [Int.toNat_natCast] at hi
          rw [show ((0 : Int) + (i : Nat)) = (i : Int) by omega]
          have inner : ∀ {H' : Hp} {j : Nat} {v : V}, Same HE H' → kus[j]? = some v → ∃ x pv, (keptP rs box)[j]? = some x ∧ v = .ref pv ∧ H' pv = some (tI x) ∧ x[i]? = some (x.getD i 0) := fun s hv => by
            obtain ⟨x, hx, xv⟩ := alE.at_ hv
            obtain ⟨pv, e, hpv⟩ := xv.same s
            have xl : x.length = box.length := pts_at_len (List.mem_filter.mp (List.mem_of_getElem? hx)).1
            exact ⟨x, pv, hx, e, hpv, by rw [List.getD_eq_getElem?_getD, List.getElem?_eq_getElem (by omega)]; rfl⟩
          refine ⟨rfl, _, rfl, KL, rfl, ⟨_, sq_lst (sF _ _ eKE)⟩, fun M nM => ?_⟩
          refine lc_list (K := K) (a := KL) (xs := kus) (fun j H' => H' M = some (tL (((keptP rs box).take j).map fun x => x.getD i 0)) ∧ Same HF H') ⟨upd_same, same_upd nM⟩ (fun j H' _ hh => sq_lst (hh.2 _ _ (sF _ _ eKE))) ?_ ?_
          · rintro j v HG hv ⟨hM', sG⟩
            obtain ⟨x, pv, hx, rfl, hpv, ex⟩ := inner (sF.trans sG) hv
            have lj := (List.getElem?_eq_some_iff.mp hx).1
            refine ⟨rfl, _, rfl, _, rfl, pv, _, (i : Int), _, rfl, rfl, sq_tup hpv, atI_nat (by rw [List.getElem?_map, ex]; rfl), _, hM', small1000 (by rw [List.length_map, List.length_map, List.length_take]; omega), ?_, same_at sG nM⟩
            rw [upd_same, take_one hx, List.map_append]
            unfold tL
            rw [List.map_append]; rfl
          rintro HG ⟨hM', sG⟩
          rw [lk, List.take_length] at hM'
          refine ⟨M, _, rfl, sq_lst hM', by rw [List.length_map]; exact kp0, fun m1 hm1 le1 => ?_⟩
          refine ⟨_, rfl, KL, rfl, ⟨_, sq_lst (sG _ _ (sF _ _ eKE))⟩, fun M2 nM2 => ?_⟩
          refine lc_list (K := K) (a := KL) (xs := kus) (fun j H' => H' M2 = some (tL (((keptP rs box).take j).map fun x => x.getD i 0)) ∧ Same HG H') ⟨upd_same, same_upd nM2⟩ (fun j H' _ hh => sq_lst (hh.2 _ _ (sG _ _ (sF _ _ eKE)))) ?_ ?_
          · rintro j v HH hv ⟨hM2, sH⟩
            obtain ⟨x, pv, hx, rfl, hpv, ex⟩ := inner ((sF.trans sG).trans sH) hv
            have lj := (List.getElem?_eq_some_iff.mp hx).1
            refine ⟨rfl, _, rfl, _, rfl, pv, _, (i : Int), _, rfl, rfl, sq_tup hpv, atI_nat (by rw [List.getElem?_map, ex]; rfl), _, hM2, small1000 (by rw [List.length_map, List.length_map, List.length_take]; omega), ?_, same_at sH nM2⟩
            rw [upd_same, take_one hx, List.map_append]
            unfold tL
            rw [List.map_append]; rfl
          rintro HH ⟨hM2, sH⟩
          rw [lk, List.take_length] at hM2
          refine ⟨M2, _, rfl, sq_lst hM2, by rw [List.length_map]; exact kp0, fun m2 hm2 le2 => ⟨len2, fun pn npn => ?_⟩⟩
          have kn := same_upd (o := .tup [.int m1, .int m2]) npn
          have hn : upd HH pn (.tup [.int m1, .int m2]) pn = some (.tup [.int m1, .int m2]) := upd_same
          have sN := (sG.trans sH).trans kn
          generalize upd HH pn (.tup [.int m1, .int m2]) = HN at *
          have hDN := sN _ _ hD
          have la := al.len
          refine ⟨us, hDN, small1000 (by omega), us ++ [.ref pn], B ++ [(m1, m2)], upd_same, ?_, by rw [List.length_append, lB]; rfl, fun j p e => ?_, same_at (sF.trans sN) nD⟩
          · have tk := TK.put (o := .lst (us ++ [.ref pn])) hDN
            exact (al.mono fun v f g => (FV.same g sN).tk tk).app ⟨pn, rfl, tk _ _ hn⟩
          · by_cases c : j < B.length
            · rw [List.getElem?_append_left c] at e
              exact hB j p e
            · rw [List.getElem?_append_right (by omega)] at e
              have hj1 : j - B.length < 1 := (List.getElem?_eq_some_iff.mp e).1
              have ej : j = i := by omega
              subst ej
              rw [lB, Nat.sub_self] at e
              cases e
              obtain ⟨r1, hr1, e1⟩ := List.mem_map.mp hm1
              obtain ⟨r2, hr2, e2⟩ := List.mem_map.mp hm2
              exact ⟨⟨r1, hr1, e1⟩, fun x hx => le1 _ (List.mem_map.mpr ⟨x, hx, rfl⟩), ⟨r2, hr2, e2⟩, fun x hx => le2 _ (List.mem_map.mpr ⟨x, hx, rfl⟩)⟩
        · obtain ⟨us, B, hD, al, lB, hB, sF⟩ := hI
          rw [Int.toNat_natCast] at lB
          refine ⟨D, _, rfl, .inl ⟨sq_lst hD, fun l nl => ?_⟩⟩
          have kl := same_upd (o := .tup us) nl
          exact ⟨.ref l, rfl, .inr ⟨B, ⟨l, us, rfl, upd_same, al.mono fun v f g => g.same kl⟩, lst_kept (by omega) hB⟩, ke.trans (sF.trans kl)⟩
      · have e : keptP rs box = [] := by
          cases h : keptP rs box with
          | nil => rfl
          | cons a t => rw [h] at z; exact absurd rfl z
        refine ⟨.non, rfl, .inl ⟨rfl, ?_⟩, ke⟩
        rintro ⟨x, hx⟩
        have := mem_kept.mpr hx
        rw [e] at this
        cases this
    obtain ⟨lv, rfl, lvo, s9⟩ := hM
    have s69' := (s7.trans s8).trans s9
    -- the sure ones
    refine ⟨fun σ H' => ∃ SU, σ = sm (some (.ref h)) (some (.int (size : Nat))) (some (.int n)) (some (.ref pb)) y4 y5 (some (.ref xa)) (some (.int (k : Nat))) (some (.ref ps)) (some (.ref PP)) (some ov) (some (.ref KL)) (some lv) (some (.ref SU)) none none ∧ H' SU = some (tL (natI ((List.range rs.length).filter (sureP rs box)))) ∧ Same H9 H', ?_, fun σ HA hM => ?_⟩
    · refine ⟨_, rfl, n, rfl, by omega, by omega, fun D nD => ?_⟩
      refine lc_range (lo := 0) (n := n.toNat) (fun i H' => H' D = some (tL (natI ((List.range i).filter (sureP rs box)))) ∧ Same H9 H') ⟨upd_same, same_upd nD⟩ (fun i HA hi hI => ?_) (fun HA hI => ?_)
      · obtain ⟨hD, sA⟩ := hI
        have hi2 : i < rs.length := by omega
        rw [show ((0 : Int) + (i : Nat)) = (i : Int) by omega]
        obtain ⟨u, hu, pr, qa, rfl, hpr, hqa⟩ := als6.at2 (row_get hi2)
        obtain ⟨lr, ar⟩ := okr.2 _ (List.mem_of_getElem? (row_get hi2))
        have s7x := s69'.trans sA
        refine ⟨rfl, ?_⟩
        refine ⟨_, rfl, PP, rfl, ⟨_, sq_lst (s7x _ _ hPP6)⟩, fun D2 nD2 => ?_⟩
        refine lc_list (K := K) (a := PP) (xs := pus) (fun j H' => H' D2 = some (.lst ((((ptsT box).take j).map (geR (rowAt rs i))).map V.bl)) ∧ Same HA H') ⟨upd_same, same_upd nD2⟩ (fun j H' _ hh => sq_lst (hh.2 _ _ (s7x _ _ hPP6))) ?_ ?_
        · rintro j v HB hv ⟨hD2, sB⟩
          obtain ⟨x, hx, xv⟩ := alP6.at_ hv
          have xl := pts_at_len (List.mem_of_getElem? hx)
          have s68 := s7x.trans sB
          have lj := (List.getElem?_eq_some_iff.mp hx).1
          refine ⟨rfl, _, rfl, _, rfl, ps, _, (i : Int), .ref pr, rfl, rfl, sq_tup (s68 _ _ hps6), atI_nat hu, pr, _, 1, .ref qa, rfl, rfl, sq_tup (s68 _ _ hpr), rfl, _, rfl, .ref qa, v, (rowAt rs i).am, x, rfl, ⟨qa, rfl, s68 _ _ hqa⟩, xv.same s68, by omega, by omega, ar, fun HC sC => ?_⟩
          have s69 := s68.trans sC
          refine ⟨_, rfl, _, rfl, ps, _, (i : Int), .ref pr, rfl, rfl, sq_tup (s69 _ _ hps6), atI_nat hu, pr, _, 3, _, rfl, rfl, sq_tup (s69 _ _ hpr), rfl, _, _, rfl, rfl, _, sC _ _ hD2, small1000 (by rw [List.length_map, List.length_map, List.length_take]; omega), ?_, same_at (sB.trans sC) nD2⟩
          rw [upd_same, take_one hx, List.map_append, List.map_append]; rfl
        rintro HB ⟨hD2, sB⟩
        rw [lpus, List.take_length] at hD2
        refine ⟨D2, _, rfl, sq_lst hD2, ?_⟩
        rw [all_pts lr hb]
        have s78 := sA.trans sB
        have e8 := sB _ _ hD
        refine ⟨_, rfl, ite2 (fun z => ?_) (fun z => ?_)⟩
        · refine ⟨_, rfl, _, e8, small1000 (by unfold natI; rw [List.length_map, List.length_map]; have := List.length_filter_le (sureP rs box) (List.range i); rw [List.length_range] at this; omega), ?_, same_at s78 nD⟩
          rw [upd_same, natI_succ, if_pos z]
          unfold tL
          rw [List.map_append]; rfl
        · refine ⟨?_, s78⟩
          rw [e8, natI_succ, if_neg z, List.append_nil]
      · obtain ⟨hD, sA⟩ := hI
        have e : n.toNat = rs.length := by omega
        rw [e] at hD
        exact ⟨D, rfl, hD, sA⟩
    obtain ⟨SU, rfl, eSU, sA⟩ := hM
    have s6A := s69'.trans sA
    have lsu := List.length_filter_le (sureP rs box) (List.range rs.length)
    rw [List.length_range] at lsu
    generalize hSU : (List.range rs.length).filter (sureP rs box) = su at *
    -- the sum that is sure
    have w5 := te.few
    refine ⟨_, rfl, _, rfl, _, rfl, .ref xa, .int (k : Nat), .ref pb, ul, wl, goal, box, rfl, (te6.tk_same s6A).tv, by omega, .inl ⟨k, rs, rfl, te.at_, bv6.same s6A, by omega, okr, fun HB sB => ?_⟩⟩
    rw [hSU]
    have suR : ∀ i ∈ su, i ≤ 6 := fun i hi => by
      rw [← hSU] at hi
      have := List.mem_range.mp (List.mem_filter.mp hi).1
      omega
    obtain ⟨fd, fs, fk⟩ := first_shown (K := K) (H := HB) suR
    refine ⟨_, _, rfl, fd, fs, fk, _, rfl, one_ok, fun l1 nl1 => ?_⟩
    have k1 := same_upd (o := .lst [.non]) nl1
    have e1 : upd HB l1 (.lst [.non]) l1 = some (.lst [.non]) := upd_same
    have eS1 := k1 _ _ (sB _ _ eSU)
    have sAB := sB.trans k1
    refine ⟨SU, l1, _, _, rfl, rfl, eS1, e1, small1001 (by unfold natI; rw [List.length_map, List.length_map, List.length_singleton]; omega), fun p2 np2 => ?_⟩
    generalize upd HB l1 (.lst [.non]) = HC at *
    have k2 := same_upd (o := .lst ((natI su).map V.int ++ [.non])) np2
    obtain ⟨fd2, _, _⟩ := first_shown (K := K) (H := upd HC p2 (.lst ((natI su).map V.int ++ [.non]))) suR
    refine ⟨p2, _, 0, firstV su, rfl, rfl, sq_lst upd_same, first_at su, firstV su, _, rfl, fd2, fs, fk, rfl, _, rfl, ite2 (fun z => by simp at z) (fun _ => ?_)⟩
    have sAC := sAB.trans k2
    generalize upd HC p2 (.lst ((natI su).map V.int ++ [.non])) = HD at *
    have s6D := s6A.trans sAC
    -- the rest of what is told
    have bxs : BxS box := fun p hp => by
      have := nar p hp
      unfold Sh12
      constructor <;> omega
    refine ⟨_, rfl, _, rfl, _, rfl, _, rfl, .ref xa, .ref pb, ov, k, rs, ul, wl, goal, box, rfl, te6.tk_same s6D, bv6.same s6D, by omega, hb, bxs, by omega, lo.same (((s8.trans s9).trans sA).trans sAC), fun HE sE => ⟨true, rfl, iteF ?_⟩⟩
    have s6E := s6D.trans sE
    have s9E := (sA.trans sAC).trans sE
    refine ⟨_, rfl, _, rfl, _, rfl, _, rfl, .ref xa, .ref pb, lv, k, rs, ul, wl, goal, box, rfl, te6.tk_same s6E, bv6.same s6E, by omega, by omega, hb, bxs, by omega, lvo.imp id (fun ⟨B, sB, l⟩ => ⟨B, sB.same s9E, l⟩), fun HF sF => ⟨true, rfl, iteF ?_⟩⟩
    have s6F := s6E.trans sF
    -- what is refused
    obtain ⟨xb, dx2, pu2, pw2, pg2, uus2, ws2, exb, hx2, hpu2, uv2, hpw2, wv2, hpg2⟩ := id (te6.tk_same s6F).tv
    cases exb
    have lws := wv2.len
    refine ⟨_, _, rfl, rfl, _, rfl, xa, C, dx2, _, _, rfl, hx2, cc.cl, cc.nw, lk_w _ _ _, pw2, _, rfl, .inr (sq_tup hpw2), _, rfl, one_ok, fun tn ntn => ?_⟩
    have ktn := same_upd (o := .tup [.int (k : Nat)]) ntn
    have etn : upd HF tn (.tup [.int (k : Nat)]) tn = some (.tup [.int (k : Nat)]) := upd_same
    have s6n := s6F.trans ktn
    refine ⟨_, rfl, _, _, rfl, rfl, _, rfl, _, _, rfl, rfl, _, rfl, ite2 (fun z => ?_) (fun z => ?_)⟩
    · refine ⟨(by show 9 ≤ sizeLine; decide), fun W nW => ?_⟩
      have kW := same_upd (o := .lst [.non, .int (0 - 1), .int (ws2.length : Nat), .bl true, .str "0", .ref tn, .int ((k : Nat) + 1), .int 0, .bl false]) nW
      have eW : upd (upd HF tn (.tup [.int (k : Nat)])) W (.lst [.non, .int (0 - 1), .int (ws2.length : Nat), .bl true, .str "0", .ref tn, .int ((k : Nat) + 1), .int 0, .bl false]) W = some (.lst [.non, .int (0 - 1), .int (ws2.length : Nat), .bl true, .str "0", .ref tn, .int ((k : Nat) + 1), .int 0, .bl false]) := upd_same
      obtain ⟨W1, W2⟩ := (a6.same s6n).fresh nW
      have a7 := (a6.same s6n).same kW
      refine ⟨_, rfl, _, rfl, _, rfl, _, rfl, h, q, W, [.non, .int (0 - 1), .int (ws2.length : Nat), .bl true, .str "0", .ref tn, .int ((k : Nat) + 1), .int 0, .bl false], rfl, a7, eW, W1, W2, by simp, (by show 9 ≤ 1000; decide), fun v HG mv aG kpG => ?_⟩
      have tkG := (TK.of kW).trans (TK.kp kpG a7)
      have te7 := te6.tk_same (s6n.trans kW)
      have tG := Kpt_tv te7.tv kpG a7
      have ttG : LamX.Tabs T0 HG := tabs_kp (fun p hp => ((tt6 p hp).ext s6n).ext kW) a7 kpG
      refine ⟨.ref xa, .ref pb, v, ul, wl, goal, rfl, tG, by omega, ?_, ttG, fun HH xH tH => fin _ (aG.ext xH) (.of ((kp06.trans (.of_same (s6n.trans kW))).trans kpG) xH) tH⟩
      have nxt : Odd HG wl (.int ((k : Nat) + 1)) := by
        refine .inr ⟨_, rfl, ?_⟩
        cases e : wl[k + 1]? with
        | none => exact .inr (.inl (by have := List.getElem?_eq_none_iff.mp e; omega))
        | some z =>
          obtain ⟨r, rfl⟩ := te.nx z e
          exact .inr (.inr ⟨k + 1, r, by omega, e⟩)
      simp only [List.mem_cons, List.not_mem_nil, or_false] at mv
      rcases mv with rfl | rfl | rfl | rfl | rfl | rfl | rfl | rfl | rfl
      · exact .inl (.inl rfl)
      · exact .inr ⟨_, rfl, .inl (by decide)⟩
      · exact .inr ⟨_, rfl, .inr (.inl (by omega))⟩
      · exact .inl (.inr (.inl ⟨_, rfl⟩))
      · exact .inl (.inr (.inr (.inl ⟨_, rfl⟩)))
      · exact .inl (.inr (.inr (.inr ⟨tn, _, rfl, tkG _ _ etn⟩)))
      · exact nxt
      · obtain ⟨r, hr0⟩ := te.z0 (show 0 < k by have := of_decide_eq_true z; omega)
        exact .inr ⟨_, rfl, .inr (.inr ⟨0, r, rfl, hr0⟩)⟩
      · exact .inl (.inr (.inl ⟨_, rfl⟩))
    · refine ⟨(by show 9 ≤ sizeLine; decide), fun W nW => ?_⟩
      have kW := same_upd (o := .lst [.non, .int (0 - 1), .int (ws2.length : Nat), .bl true, .str "0", .ref tn, .int ((k : Nat) + 1), .int 9, .bl false]) nW
      have eW : upd (upd HF tn (.tup [.int (k : Nat)])) W (.lst [.non, .int (0 - 1), .int (ws2.length : Nat), .bl true, .str "0", .ref tn, .int ((k : Nat) + 1), .int 9, .bl false]) W = some (.lst [.non, .int (0 - 1), .int (ws2.length : Nat), .bl true, .str "0", .ref tn, .int ((k : Nat) + 1), .int 9, .bl false]) := upd_same
      obtain ⟨W1, W2⟩ := (a6.same s6n).fresh nW
      have a7 := (a6.same s6n).same kW
      refine ⟨_, rfl, _, rfl, _, rfl, _, rfl, h, q, W, [.non, .int (0 - 1), .int (ws2.length : Nat), .bl true, .str "0", .ref tn, .int ((k : Nat) + 1), .int 9, .bl false], rfl, a7, eW, W1, W2, by simp, (by show 9 ≤ 1000; decide), fun v HG mv aG kpG => ?_⟩
      have tkG := (TK.of kW).trans (TK.kp kpG a7)
      have te7 := te6.tk_same (s6n.trans kW)
      have tG := Kpt_tv te7.tv kpG a7
      have ttG : LamX.Tabs T0 HG := tabs_kp (fun p hp => ((tt6 p hp).ext s6n).ext kW) a7 kpG
      refine ⟨.ref xa, .ref pb, v, ul, wl, goal, rfl, tG, by omega, ?_, ttG, fun HH xH tH => fin _ (aG.ext xH) (.of ((kp06.trans (.of_same (s6n.trans kW))).trans kpG) xH) tH⟩
      have nxt : Odd HG wl (.int ((k : Nat) + 1)) := by
        refine .inr ⟨_, rfl, ?_⟩
        cases e : wl[k + 1]? with
        | none => exact .inr (.inl (by have := List.getElem?_eq_none_iff.mp e; omega))
        | some z =>
          obtain ⟨r, rfl⟩ := te.nx z e
          exact .inr (.inr ⟨k + 1, r, by omega, e⟩)
      simp only [List.mem_cons, List.not_mem_nil, or_false] at mv
      rcases mv with rfl | rfl | rfl | rfl | rfl | rfl | rfl | rfl | rfl
      · exact .inl (.inl rfl)
      · exact .inr ⟨_, rfl, .inl (by decide)⟩
      · exact .inr ⟨_, rfl, .inr (.inl (by omega))⟩
      · exact .inl (.inr (.inl ⟨_, rfl⟩))
      · exact .inl (.inr (.inr (.inl ⟨_, rfl⟩)))
      · exact .inl (.inr (.inr (.inr ⟨tn, _, rfl, tkG _ _ etn⟩)))
      · exact nxt
      · exact .inr ⟨_, rfl, .inr (.inl (by have := te.few; omega))⟩
      · exact .inl (.inr (.inl ⟨_, rfl⟩))
end
end M66

namespace M66
open PySem PySem.Spec PyProof.Rows L2 SX Own Gd
open C8 (Cal pe_c pe_gc pe_mk Mak pss_cut)
/-! ### a < b < c < d -/
def tChain3 (r r' r2 : R2) (ta tb tc td : TE) : TT := fun σ H Q => ta σ H fun x H1 => tb σ H1 fun y H2 => r x y H2 fun z H3 => ∃ k, z = .bl k ∧
  (if k = true then tc σ H3 fun w' H4 => r' y w' H4 fun z H5 => ∃ k, z = .bl k ∧ (if k = true then td σ H5 fun u H6 => r2 w' u H6 fun z H7 => ∃ k, z = .bl k ∧ Q k H7 else Q false H5) else Q false H3)
theorem pt_chain3 {X : Cx} {a b c d : Expr} {ta tb tc td : TE} {pos : Pos} {op op' op2 : CmpOp} {r r' r2 : R2} (ho : OpR X (compareOp op) r) (ho' : OpR X (compareOp op') r') (ho2 : OpR X (compareOp op2) r2) (ha : PE X a ta) (hb : PE X b tb) (hc : PE X c tc) (hd : PE X d td)
    (hm : lastMarks [op, op', op2] [b, c, d] = false := by with_unfolding_all rfl) : PT X (.Compare a [op, op', op2] [b, c, d] pos) (tChain3 r r' r2 ta tb tc td) := by
  refine ⟨fun pins s σ H Q I h => ?_⟩
  refine isTrue_chain (thn (ha.run pins s σ H _ I h) fun v s1 ⟨x, H1, I1, r1, q1⟩ => test_link (thn (hb.run pins s1 σ H1 _ I1 q1) fun u s2 ⟨y, H2, I2, r2, q2⟩ =>
    thn (ho pins s2 σ H2 x y v u _ I2 r1 r2 q2) fun d s3 ⟨z, H3, I3, r3, k, e, q3⟩ => ?_)) hm
  subst e
  cases r3
  refine wpAny_truthy_bool ?_
  cases k with
  | false => exact ite_ff ⟨H3, I3, q3⟩
  | true =>
    refine ite_tt (test_link (thn (hc.run pins s3 σ H3 _ I3 q3) fun w' s4 ⟨z', H4, I4, r4, q4⟩ => thn (ho' pins s4 σ H4 y z' u w' _ I4 r2 r4 q4) fun d' s5 ⟨z2, H5, I5, r5, k2, e2, q5⟩ => ?_))
    subst e2
    cases r5
    refine wpAny_truthy_bool ?_
    cases k2 with
    | false => exact ite_ff ⟨H5, I5, q5⟩
    | true =>
      refine ite_tt (test_last (thn (hd.run pins s5 σ H5 _ I5 q5) fun w2 s6 ⟨z3, H6, I6, r6, q6⟩ => thn (ho2 pins s6 σ H6 z' z3 w' w2 _ I6 r4 r6 q6) fun d3 s7 ⟨z4, H7, I7, r7, k3, e3, q7⟩ => ?_))
      subst e3
      cases r7
      exact wpAny_truthy_bool ⟨H7, I7, q7⟩
/-! ### great boxes -/
theorem fvs_to {K : PySem.W.Frag} {H : Hp} {p : Addr} {us : List V} {rl : List Fr} {n : Nat} {Q : VK} (hp : H p = some (.tup us)) (al : All2 (FV H) us rl) (hn : n ≤ us.length)
    (q : ∀ p' us' H', Same H H' → H' p' = some (.tup us') → All2 (FV H') us' (rl.take n) → Q (.ref p') H') : rSlA K (.ref p) none (some (n : Int)) H Q := by
  refine ⟨p, us, rfl, sq_tup hp, fun z => ?_, fun _ y ny => ?_⟩
  · have z := z.2
    rw [show HT.sIx us.length us.length (some (n : Int)) = min n us.length from HT.sIx_nat _ _ n] at z
    refine q p us H (Same.refl _) hp ?_
    rw [List.take_of_length_le (by rw [← al.len]; omega)]
    exact al
  · have k := same_upd (o := .tup (cutV us none (some (n : Int)))) ny
    refine q y (us.take n) _ k (by rw [upd_same, cut_to hn]) ?_
    exact (al.take n).mono fun v x h => h.same k
theorem cut_from {xs : List V} {k : Nat} (h : k ≤ xs.length) : cutV xs (some (k : Int)) none = xs.drop k := by
  unfold cutV
  rw [HT.sIx_nat, HT.sIx_none, Nat.min_eq_left h, List.take_of_length_le (by rw [List.length_drop]; exact Nat.le_refl _)]
theorem fvs_from {K : PySem.W.Frag} {H : Hp} {p : Addr} {us : List V} {rl : List Fr} {n : Nat} {Q : VK} (hp : H p = some (.tup us)) (al : All2 (FV H) us rl) (hn : n ≤ us.length)
    (q : ∀ p' us' H', Same H H' → H' p' = some (.tup us') → All2 (FV H') us' (rl.drop n) → Q (.ref p') H') : rSlA K (.ref p) (some (n : Int)) none H Q := by
  refine ⟨p, us, rfl, sq_tup hp, fun z => ?_, fun _ y ny => ?_⟩
  · have z := z.1
    rw [HT.sIx_nat] at z
    have z0 : min n us.length = 0 := z
    have e0 : n = 0 ∨ us = [] := by
      rcases Nat.eq_zero_or_pos us.length with h | h
      · exact .inr (List.length_eq_zero_iff.mp h)
      · left; omega
    refine q p us H (Same.refl _) hp ?_
    rcases e0 with rfl | rfl
    · exact al
    · cases al
      rw [List.drop_nil]; exact .nil
  · have k := same_upd (o := .tup (cutV us (some (n : Int)) none)) ny
    refine q y (us.drop n) _ k (by rw [upd_same, cut_from hn]) ?_
    exact (al.drop n).mono fun v x h => h.same k
theorem cat_f {K : PySem.W.Frag} {H : Hp} {p1 p2 : Addr} {us1 us2 : List V} {r1 r2 : List Fr} {Q : VK} (h1 : H p1 = some (.tup us1)) (h2 : H p2 = some (.tup us2)) (w1 : All2 (FV H) us1 r1) (w2 : All2 (FV H) us2 r2) (l : us1.length + us2.length ≤ 1000)
    (q : ∀ p ws H', Same H H' → H' p = some (.tup ws) → All2 (FV H') ws (r1 ++ r2) → Q (.ref p) H') : rCatA K (.ref p1) (.ref p2) H Q := by
  refine ⟨p1, p2, us1, us2, rfl, rfl, sq_tup h1, sq_tup h2, by rw [sizeLine_eq]; omega, fun e => ?_, fun _ e => ?_, fun _ _ p np => ?_⟩
  · subst e
    cases w1
    exact q p2 us2 H (Same.refl _) h2 w2
  · subst e
    cases w2
    exact q p1 us1 H (Same.refl _) h1 (by rw [List.append_nil]; exact w1)
  · have k := same_upd (o := .tup (us1 ++ us2)) np
    exact q p _ _ k upd_same ((w1.mono fun v x h => h.same k).cat (w2.mono fun v x h => h.same k))
/-- a box with another pair at a place -/
def putB (box : List Fr) (i : Nat) (e : Fr) : List Fr := box.take i ++ [e] ++ box.drop (i + 1)
theorem putB_set {box : List Fr} {i : Nat} {e : Fr} (h : i < box.length) : putB box i e = box.set i e := by
  unfold putB
  rw [List.set_eq_take_append_cons_drop, if_pos h, List.append_assoc]; rfl
theorem putB_len {box : List Fr} {i : Nat} {e : Fr} (h : i < box.length) : (putB box i e).length = box.length := by rw [putB_set h, List.length_set]
theorem inB_put {x : List Int} {box : List Fr} {i : Nat} {e : Fr} {c : Int} (hi : i < box.length) (h : InB x box) (ex : x[i]? = some c) (h1 : e.1 ≤ c) (h2 : c ≤ e.2) : InB x (putB box i e) := by
  rw [putB_set hi]
  refine inB_of (by rw [List.length_set]; exact h.len) fun k d p e1 e2 => ?_
  rw [List.getElem?_set] at e2
  by_cases z : i = k
  · subst z
    rw [if_pos rfl, if_pos hi] at e2
    cases e2
    rw [ex] at e1
    cases e1
    exact ⟨h1, h2⟩
  · rw [if_neg z] at e2
    exact h.at_ e1 e2
theorem inB_put_sub {x : List Int} {box : List Fr} {i : Nat} {e p : Fr} (hp : box[i]? = some p) (h : InB x (putB box i e)) (h1 : p.1 ≤ e.1) (h2 : e.2 ≤ p.2) : InB x box ∧ ∃ c, x[i]? = some c ∧ e.1 ≤ c ∧ c ≤ e.2 := by
  have hi := (List.getElem?_eq_some_iff.mp hp).1
  rw [putB_set hi] at h
  have l := h.len
  rw [List.length_set] at l
  have ee : (box.set i e)[i]? = some e := by rw [List.getElem?_set_self hi]
  have exi : x[i]? = some (x[i]'(by omega)) := List.getElem?_eq_getElem _
  have be := h.at_ exi ee
  refine ⟨inB_of l fun k d r e1 e2 => ?_, _, exi, be⟩
  by_cases z : i = k
  · subst z
    rw [hp] at e2
    cases e2
    have := h.at_ e1 ee
    omega
  · exact h.at_ e1 (by rw [List.getElem?_set, if_neg z]; exact e2)
theorem bx_put {box : List Fr} {i : Nat} {e : Fr} (hb : Bx box) (h : e.1 ≤ e.2) : Bx (putB box i e) := fun p hp => by
  unfold putB at hp
  rcases List.mem_append.mp hp with z | z
  · rcases List.mem_append.mp z with z | z
    · exact hb p (List.mem_of_mem_take z)
    · rw [List.mem_singleton.mp z]; exact h
  · exact hb p (List.mem_of_mem_drop z)
/-- an end of the least box has a top that is enough -/
theorem no_top_end {rs : List Row} {box B : List Fr} {i : Nat} {p : Fr} (lst : Lst (Ei box rs) box.length B) (e : B[i]? = some p) (c : Int) (hc : c = p.1 ∨ c = p.2) : noTop rs (putB box i (c, c)) = false := by
  have hi : i < box.length := by rw [← lst.len]; exact (List.getElem?_eq_some_iff.mp e).1
  obtain ⟨x, ⟨r, mr, hx, hr⟩, ex⟩ : ∃ x, Ei box rs x ∧ x[i]? = some c := by
    rcases hc with rfl | rfl
    · exact (lst.lo i p e).1
    · exact (lst.lo i p e).2
  have inb := inB_put (e := (c, c)) hi hx ex (Int.le_refl c) (Int.le_refl c)
  have t := top_ge (a := r.am) inb
  have : lowR (putB box i (c, c)) r = false := decide_eq_false (by omega)
  unfold noTop
  cases z : rs.all (lowR (putB box i (c, c))) with
  | false => rfl
  | true =>
    have := List.all_eq_true.mp z r mr
    rw [‹lowR _ r = false›] at this
    cases this
/-- what is beyond has none -/
theorem no_top_beyond {rs : List Row} {box B : List Fr} {i : Nat} {p q b : Fr} (ok : RsOk rs box.length) (hb : Bx box) (lst : Lst (Ei box rs) box.length B) (e : B[i]? = some p) (e2 : box[i]? = some q) (h : b.1 ≤ b.2) (h1 : q.1 ≤ b.1) (h2 : b.2 ≤ q.2) (out : b.2 < p.1 ∨ p.2 < b.1) : noTop rs (putB box i b) = true := by
  have hi := (List.getElem?_eq_some_iff.mp e2).1
  refine List.all_eq_true.mpr fun r mr => decide_eq_true ?_
  refine Classical.byContradiction fun z => ?_
  obtain ⟨x, hx, hr⟩ := (kp_some (r := r) (box := putB box i b) (by rw [putB_len hi]; exact (ok.2 r mr).1) (bx_put hb h)).mpr (by omega)
  obtain ⟨inb, c, ex, c1, c2⟩ := inB_put_sub e2 hx h1 h2
  have := lst.bd i p e x c ⟨r, mr, inb, hr⟩ ex
  omega
def Gre (box : List Fr) : Prop := ∀ p ∈ box, -1000000 ≤ p.1 ∧ p.1 ≤ p.2 ∧ p.2 ≤ 1000000
abbrev hwF (t : Int) : Int := if t < (10 : Int) ^ (6 : Int).toNat then t else (10 : Int) ^ (6 : Int).toNat
theorem hw_in {l c : Int} (h1 : -1000000 ≤ l) (h2 : l ≤ 1000000) (h3 : 0 ≤ c) : l ≤ hwF (l + c) ∧ hwF (l + c) ≤ 1000000 := by
  unfold hwF
  rw [p106]
  split <;> omega
def spans : List Int := [200, 200, 2 * (10 : Int) ^ (6 : Int).toNat - 9]
theorem spans_in : ∀ c ∈ spans, 200 ≤ c ∧ c ≤ 1999991 := by decide
def widths : List Int := [0, 9, 60, (10 : Int) ^ (4 : Int).toNat, 2 * (10 : Int) ^ (6 : Int).toNat]
theorem widths_in : ∀ c ∈ widths, 0 ≤ c ∧ c ≤ 2000000 := by decide
def mosts : List Int := [9, 1000, (10 : Int) ^ (5 : Int).toNat]
theorem mosts_in : ∀ c ∈ mosts, 1 ≤ c ∧ c ≤ 100000 := by decide
section
variable {P : Program} {w : World} {K : PySem.W.Frag} {mg : Str → Option Value} {base : Heap} {aW aT : Addr} {es : Array DictEntry} {nn : Nat}
def sg (x0 x1 x2 x3 x4 x5 x6 x7 x8 x9 x10 x11 x12 x13 x14 x15 : Option V) : L2.St := [x0, x1, x2, x3, x4, x5, x6, x7, x8, x9, x10, x11, x12, x13, x14, x15]
abbrev s_Lgreat_right : Stmt := topS 64
abbrev n_Lgreat_right : List Str := ["heap", "size", "box", "span", "at", "low", "task", "number", "sums", "opened", "least", "high", "first", "last", "end", "beyond"]
theorem sc_Lgreat_right : FnScope n_Lgreat_right ["heap", "size"] (defScope s_Lgreat_right) := ⟨rfl, rfl, rfl, by decide +kernel, rfl, by decide +kernel, by decide +kernel⟩
def spGreat : Sp := fun vs H Q _ => ∃ (h q : Addr) (size : Nat), vs = [.ref h, .int size] ∧ HpAt H h q ∧ 1 ≤ size ∧ size ≤ 5 ∧ ∀ H', HpAt H' h q → Kpt h q H H' → Q (.bl true) H'
theorem ok_Lgreat_right {f C CR : Addr} {fd : FuncData} (F : Fun K "_law_great_right" "_law_great_right" s_Lgreat_right f fd) (T : Txt K mg w aW aT es nn) (cc : CC K C) (c_Ldraw : Cal P w K mg base 1 "_law_draw" spDraw []) (c_Lpick : Cal P w K mg base 2 "_law_pick" spPickL []) (c_Lworld : Cal P w K mg base 11 "_law_world" (spWorld C) []) (c_Ltop : Cal P w K mg base 1 "_law_top" spLtop []) (c_Lno_top : Cal P w K mg base 2 "_law_no_top" spNoTop [])
    (x_either_box : CalX P w K mg base 7 "either_box" (spBox C CR)) (c_Lleft_right : CalG P w K mg base 10 "_law_left_right" (spLeftRight C)) (c_Ldrawn_right : CalG P w K mg base 10 "_law_drawn_right" (spDrawnRight C)) : FnG P w K mg base CX0 13 f fd ["heap", "size"] spGreat := by
  refine fun_okG F sc_Lgreat_right (fun vs H Q E h => ?_) (fun cdv A outer s H vs Q E hgd hr h => ?_)
  · obtain ⟨h, q, size, rfl, _⟩ := h
    rfl
  · obtain ⟨h, q, size, rfl, a0, s1, s5, fin⟩ := h
    refine ⟨_, (pss_cons (ps_asg (pe_tup (pa_cons (pe_lst pa_nil) (pa_cons (pe_c c_Lpick hr (by decide) (by rfl) (pa_cons (pv 0) (pa_cons (pe_lst (pa_cons pe_int (pa_cons pe_int (pa_cons (pe_op op_sub (pe_op op_mul pe_int (pe_op op_pow pe_int pe_int)) pe_int) pa_nil)))) pa_nil))) pa_nil))) (pg_tup rfl (pgs_cons (pg_name (i := 2) sc_Lgreat_right.nd rfl (.inr rfl)) (pgs_cons (pg_name (i := 3) sc_Lgreat_right.nd rfl (.inl rfl)) pgs_nil))))
      (pss_cons (ps_for PassesOwn.never rfl (pi_range1 (by rfl) T.b_range (pa_cons (pv 1) pa_nil)) (pg_name (i := 4) sc_Lgreat_right.nd rfl (.inl rfl)) (pss_cons (ps_set (i := 5) sc_Lgreat_right.nd rfl (.inl rfl) (pe_op op_sub (pe_c c_Ldraw hr (by decide) (by rfl) (pa_cons (pv 0) (pa_cons (pv 3) pa_nil))) (pe_op op_fdiv (pv 3) pe_int)))
        (pss_one (ps_expr (pe_bm PySem.F.plainAttrs_list PySem.F.slot_list_append PySem.F.type_list_append mt_append (pv 2) (pa_cons (pe_tup (pa_cons (pv 5) (pa_cons (pe_callB (call_min2 rfl) (by rfl) T.b_min (by decide +kernel) (pa_cons (pe_op op_pow pe_int pe_int) (pa_cons (pe_op op_add (pv 5) (pe_c c_Lpick hr (by decide) (by rfl) (pa_cons (pv 0) (pa_cons (pe_lst (pa_cons pe_int (pa_cons pe_int (pa_cons pe_int (pa_cons (pe_op op_pow pe_int pe_int) (pa_cons (pe_op op_mul pe_int (pe_op op_pow pe_int pe_int)) pa_nil)))))) pa_nil)))) pa_nil))) pa_nil))) pa_nil))))))
      (pss_cons (ps_set (i := 2) sc_Lgreat_right.nd rfl (.inr rfl) (pe_callTy call_tuple_of (by rfl) T.b_tuple (by decide +kernel) (pa_cons (pv 2) pa_nil)))
      (pss_cons (ps_asg (pe_c c_Lworld hr (by decide) (by rfl) (pa_cons (pv 0) (pa_cons (pv 2) (pa_cons (pe_op op_add pe_int (pe_c c_Ldraw hr (by decide) (by rfl) (pa_cons (pv 0) (pa_cons pe_int pa_nil)))) (pa_cons (pe_c c_Lpick hr (by decide) (by rfl) (pa_cons (pv 0) (pa_cons (pe_lst (pa_cons pe_int (pa_cons pe_int (pa_cons (pe_op op_pow pe_int pe_int) pa_nil)))) pa_nil))) pa_nil))))) (pg_tup rfl (pgs_cons (pg_name (i := 6) sc_Lgreat_right.nd rfl (.inl rfl)) (pgs_cons (pg_name (i := 7) sc_Lgreat_right.nd rfl (.inl rfl)) pgs_nil))))
      (pss_cons (ps_set (i := 8) sc_Lgreat_right.nd rfl (.inr rfl) (pe_ix ix_tup (pe_ix ix_tup (pe_fld (pv 6) (by rfl)) (pv 7) (fun _ _ => rfl)) pe_int (fun _ _ => rfl)))
      (pss_cut (ps_set (i := 9) sc_Lgreat_right.nd rfl (.inl rfl) (pe_callTy call_tuple_of (by rfl) T.b_tuple (by decide +kernel) (pa_cons (pe_lc (own := [("at", 4)]) rfl sc_Lgreat_right.nd (pi_range1 (by rfl) T.b_range (pa_cons (pe_callB call_len_seq (by rfl) T.b_len (by decide +kernel) (pa_cons (pv 8) pa_nil)) pa_nil)) (blkOk_by (N := n_Lgreat_right) (sc := defScope s_Lgreat_right) (by decide +kernel)) (fun _ _ _ _ _ => (pg_name (i := 4) sc_Lgreat_right.nd rfl (.inl rfl))) (fun _ _ _ _ _ => (pts_one (pt_cmpR op_ge (pe_c c_Ltop hr (by decide) (by rfl) (pa_cons (pe_ix (r := rIxT K) ix_tup (pe_ix (r := rIxT K) ix_tup (pv 8) (pv 4) (fun _ _ => rfl)) pe_int (fun _ _ => rfl)) (pa_cons (pv 2) pa_nil))) (pe_ix (r := rIxT K) ix_tup (pe_ix (r := rIxT K) ix_tup (pv 8) (pv 4) (fun _ _ => rfl)) pe_int (fun _ _ => rfl)) (nomark _)))) (fun _ _ _ _ _ => (pv 4))) pa_nil)))
      (pss_cons (ps_if (pt_not (pt_val (pe_cG hgd c_Lleft_right hr (by decide) (by rfl) (pa_cons (pv 6) (pa_cons (pv 7) (pa_cons (pv 2) (pa_cons (pv 9) pa_nil))))))) (pss_one (ps_ret pe_bl)) pss_nil)
      (pss_cons (ps_set (i := 10) sc_Lgreat_right.nd rfl (.inl rfl) (pe_x x_either_box hr (by decide) (by rfl) (pa_cons (pv 6) (pa_cons (pv 7) (pa_cons (pv 2) pa_nil)))))
      (pss_cut (ps_if (PW.pt (pw_or (pt_cmpR (op_eqD hr.units) (pv 9) (pe_tup pa_nil) (nomark _)) (pw_or1 (pt_cmpR op_isN (pv 10) pe_non (nomark _))))) (pss_one (ps_ret (pe_and (pe_cmpR (op_eqD hr.units) (pv 9) (pe_tup pa_nil) (nomark _)) (pe_one (pe_cG hgd c_Ldrawn_right hr (by decide) (by rfl) (pa_cons (pv 6) (pa_cons (pv 7) (pa_cons (pv 2) (pa_cons pe_non pa_nil))))))))) pss_nil)
      (pss_cons (ps_for PassesOwn.never rfl (pi_range1 (by rfl) T.b_range (pa_cons (pv 1) pa_nil)) (pg_name (i := 4) sc_Lgreat_right.nd rfl (.inl rfl)) (pss_cons (ps_asg (pe_tup (pa_cons (pe_ix ix_tup (pv 2) (pv 4) (fun _ _ => rfl)) (pa_cons (pe_ix ix_tup (pv 10) (pv 4) (fun _ _ => rfl)) pa_nil))) (pg_tup rfl (pgs_cons (pg_tup rfl (pgs_cons (pg_name (i := 5) sc_Lgreat_right.nd rfl (.inl rfl)) (pgs_cons (pg_name (i := 11) sc_Lgreat_right.nd rfl (.inl rfl)) pgs_nil))) (pgs_cons (pg_tup rfl (pgs_cons (pg_name (i := 12) sc_Lgreat_right.nd rfl (.inl rfl)) (pgs_cons (pg_name (i := 13) sc_Lgreat_right.nd rfl (.inl rfl)) pgs_nil))) pgs_nil))))
        (pss_cons (ps_if (pt_not (pt_chain3 op_le op_le op_le (pv 5) (pv 12) (pv 13) (pv 11))) (pss_one (ps_ret pe_bl)) pss_nil)
        (pss_one (ps_for PassesOwn.never rfl (pi_list (pe_lst (pa_cons (pe_tup (pa_cons (pv 12) (pa_cons (pe_tup (pa_cons (pv 5) (pa_cons (pe_op op_sub (pv 12) pe_int) pa_nil))) pa_nil))) (pa_cons (pe_tup (pa_cons (pv 13) (pa_cons (pe_tup (pa_cons (pe_op op_add (pv 13) pe_int) (pa_cons (pv 11) pa_nil))) pa_nil))) pa_nil)))) (pg_tup rfl (pgs_cons (pg_name (i := 14) sc_Lgreat_right.nd rfl (.inl rfl)) (pgs_cons (pg_name (i := 15) sc_Lgreat_right.nd rfl (.inl rfl)) pgs_nil))) (pss_cut (ps_if (pt_val (pe_c c_Lno_top hr (by decide) (by rfl) (pa_cons (pv 8) (pa_cons (pe_op op_catA (pe_op op_catA (pe_slice sl_tupA (pv 2) po_none (po_some (pv 4))) (pe_tup (pa_cons (pe_tup (pa_cons (pv 14) (pa_cons (pv 14) pa_nil))) pa_nil))) (pe_slice sl_tupA (pv 2) (po_some (pe_op op_add (pv 4) pe_int)) po_none)) pa_nil)))) (pss_one (ps_ret pe_bl)) pss_nil)
          (pss_one (ps_if (PW.pt (pw_and (pt_cmpR op_le (pe_ix ix_tup (pv 15) pe_int (fun _ _ => rfl)) (pe_ix ix_tup (pv 15) pe_int (fun _ _ => rfl)) (nomark _)) (pw_and1 (pt_not (pt_val (pe_c c_Lno_top hr (by decide) (by rfl) (pa_cons (pv 8) (pa_cons (pe_op op_catA (pe_op op_catA (pe_slice sl_tupA (pv 2) po_none (po_some (pv 4))) (pe_tup (pa_cons (pv 15) pa_nil))) (pe_slice sl_tupA (pv 2) (po_some (pe_op op_add (pv 4) pe_int)) po_none)) pa_nil)))))))) (pss_one (ps_ret pe_bl)) pss_nil))))))))
      (pss_one (ps_ret (pe_cG hgd c_Ldrawn_right hr (by decide) (by rfl) (pa_cons (pv 6) (pa_cons (pv 7) (pa_cons (pv 2) (pa_cons (pv 10) pa_nil))))))))))))))))), ?_⟩
    refine ⟨nil_ok, fun L nL => ?_⟩
    obtain ⟨La, Lb⟩ := a0.fresh nL
    have kL := same_upd (o := .lst []) nL
    have eL : upd H L (.lst []) L = some (.lst []) := upd_same
    have a1 := a0.same kL
    have kp1 : Kpt h q H (upd H L (.lst [])) := .of_same kL
    show tCons _ _ _ (upd H L (.lst [])) _
    generalize upd H L (.lst []) = H1 at *
    refine ⟨_, rfl, _, _, rfl, rfl, cpow6, _, _, rfl, rfl, .inl ⟨by decide, by decide⟩, _, _, rfl, rfl, len3, fun pk npk => ?_⟩
    have kq := same_upd (o := .lst (spans.map V.int)) npk
    obtain ⟨f1, f2⟩ := a1.fresh npk
    refine ⟨h, q, pk, spans.map V.int, rfl, a1.same kq, upd_same, f1, f2, by simp [spans], by show 3 ≤ 1000; decide, fun v H2 mv a2 kp2 => ?_⟩
    obtain ⟨sp, hsp, rfl⟩ := int_of mv
    have bsp := spans_in sp hsp
    have kp12 := (Kpt.of_same (h := h) (q := q) kq).trans kp2
    have eL2 := kp12 _ _ eL La Lb
    have kp02 := kp1.trans kp12
    refine ⟨len2, fun t1 nt1 => ?_⟩
    have kt := same_upd (o := .tup [.ref L, .int sp]) nt1
    have eL3 := kt _ _ eL2
    have a3 := a2.same kt
    have kp3 : Kpt h q H (upd H2 t1 (.tup [.ref L, .int sp])) := kp02.trans (.of_same kt)
    have et1 : upd H2 t1 (.tup [.ref L, .int sp]) t1 = some (.tup [.ref L, .int sp]) := upd_same
    show gTup _ _ _ (.ref t1) _ (upd H2 t1 (.tup [.ref L, .int sp])) _
    generalize upd H2 t1 (.tup [.ref L, .int sp]) = H3 at *
    refine ⟨t1, _, rfl, sq_tup et1, rfl, _, _, rfl, _, _, rfl, rfl, ?_⟩
    clear kL eL a1 kp1 kq f1 f2 a2 kp2 kp12 eL2 kp02 kt et1
    refine ⟨_, rfl, (size : Int), rfl, by omega, by omega, for_range (lo := 0) (n := ((size : Nat) : Int).toNat) (fun i σ H' => ∃ us bx y4 y5, σ = sg (some (.ref h)) (some (.int (size : Nat))) (some (.ref L)) (some (.int sp)) y4 y5 none none none none none none none none none none ∧ H' L = some (.lst us) ∧ All2 (FV H') us bx ∧ bx.length = i ∧ Gre bx ∧ HpAt H' h q ∧ Kpt h q H H')
      ⟨[], [], none, none, rfl, eL3, .nil, rfl, (fun p hp => by cases hp), a3, kp3⟩ (fun i σ H2 hi hI => ?_) (fun σ H2 hI => ?_)⟩
    · obtain ⟨us, bx, y4, y5, rfl, eL2, al, lb, nar, a2, kp2⟩ := hI
      rw [Int.toNat_natCast] at hi
      refine ⟨_, rfl, _, rfl, h, q, sp, rfl, a2, by omega, by omega, fun x H3 x0 x1 a3 kp3 => ⟨_, rfl, _, _, rfl, rfl, ⟨by decide, by decide⟩, _, _, rfl, rfl, ?_⟩⟩
      have eL3 := kp3 _ _ eL2 La Lb
      have blw : -1000000 ≤ x - sp / 2 ∧ x - sp / 2 ≤ 1000000 := by omega
      refine ⟨_, rfl, .inl ⟨rfl, _, sq_lst eL3⟩, _, rfl, _, _, rfl, rfl, cpow6, _, rfl, _, rfl, _, _, rfl, rfl, ⟨by decide, by decide, by decide⟩, _, _, rfl, rfl, cpow6, _, _, rfl, rfl, .inl ⟨by decide, by decide⟩, (by show 5 ≤ sizeLine; decide), fun pk npk => ?_⟩
      have kq := same_upd (o := .lst (widths.map V.int)) npk
      obtain ⟨f1, f2⟩ := a3.fresh npk
      refine ⟨h, q, pk, widths.map V.int, rfl, a3.same kq, upd_same, f1, f2, by simp [widths], by show 5 ≤ 1000; decide, fun v H6 mv a6 kp6 => ?_⟩
      obtain ⟨c, hc, rfl⟩ := int_of mv
      have bc := widths_in c hc
      refine ⟨_, _, rfl, rfl, _, _, rfl, len2, fun pn npn => ?_⟩
      have bhw := hw_in (c := c) blw.1 blw.2 bc.1
      have kp36 := (Kpt.of_same (h := h) (q := q) kq).trans kp6
      have kn := same_upd (o := .tup [.int (x - sp / 2), .int (hwF (x - sp / 2 + c))]) npn
      have hn : upd H6 pn (.tup [.int (x - sp / 2), .int (hwF (x - sp / 2 + c))]) pn = some (.tup [.int (x - sp / 2), .int (hwF (x - sp / 2 + c))]) := upd_same
      have eL7 := kn _ _ (kp36 _ _ eL3 La Lb)
      have lu := al.len
      have tk7 : TK H2 (upd H6 pn (.tup [.int (x - sp / 2), .int (hwF (x - sp / 2 + c))])) := (TK.kp (kp3.trans kp36) a2).trans (.of kn)
      have a7 := a6.same kn
      have kp7 : Kpt h q H (upd H6 pn (.tup [.int (x - sp / 2), .int (hwF (x - sp / 2 + c))])) := ((kp2.trans kp3).trans kp36).trans (.of_same kn)
      have tk8 := TK.put (o := .lst (us ++ [.ref pn])) eL7
      refine ⟨L, us, .ref pn, rfl, rfl, eL7, small1000 (by omega), us ++ [.ref pn], bx ++ [(x - sp / 2, hwF (x - sp / 2 + c))], _, _, rfl, upd_same, (al.mono fun v f g => g.tk (tk7.trans tk8)).app (a := (x - sp / 2, hwF (x - sp / 2 + c))) ⟨pn, rfl, tk8 _ _ hn⟩, by rw [List.length_append, lb]; rfl, fun p hp => ?_, a7.upd La Lb, kp7.at_new nL⟩
      rcases List.mem_append.mp hp with e | e
      · exact nar p e
      · rw [List.mem_singleton.mp e]
        exact ⟨blw.1, bhw.1, bhw.2⟩
    obtain ⟨us, box, y4, y5, rfl, eL2, al, lb, nar, a2, kp2⟩ := hI
    rw [Int.toNat_natCast] at lb
    refine ⟨_, rfl, L, _, rfl, .inl ⟨sq_lst eL2, fun pb npb => ?_⟩⟩
    have kb := same_upd (o := .tup us) npb
    have bv : SV (upd H2 pb (.tup us)) (.ref pb) box := ⟨pb, us, rfl, upd_same, al.mono fun v f g => g.same kb⟩
    have a3' := a2.same kb
    have kp3' : Kpt h q H (upd H2 pb (.tup us)) := kp2.trans (.of_same kb)
    show gName 2 (.ref pb) _ (upd H2 pb (.tup us)) _
    generalize upd H2 pb (.tup us) = H4 at *
    clear eL2 al a2 kp2 kb a3 kp3 eL3
    refine ⟨_, rfl, _, rfl, _, rfl, h, q, 5, rfl, a3', by decide, by decide, fun d H5 d0 d1 a5 kp5 => ⟨_, _, rfl, rfl, _, rfl, _, _, rfl, rfl, ⟨by decide, by decide, by decide⟩, len3, fun pk npk => ?_⟩⟩
    have kq := same_upd (o := .lst (mosts.map V.int)) npk
    obtain ⟨f1, f2⟩ := a5.fresh npk
    refine ⟨h, q, pk, mosts.map V.int, rfl, a5.same kq, upd_same, f1, f2, by simp [mosts], by show 3 ≤ 1000; decide, fun v H6 mv a6 kp6 => ?_⟩
    obtain ⟨mo, hmo, rfl⟩ := int_of mv
    have bmo := mosts_in mo hmo
    have kp46 := kp5.trans ((Kpt.of_same (h := h) (q := q) kq).trans kp6)
    have bv6 := bv.tk (TK.kp kp46 a3')
    refine ⟨h, q, .ref pb, box, 2 + d, mo, rfl, a6, bv6, by omega, by omega, fun p hp => (nar p hp).1, by omega, by omega, by omega, by omega, fun H7 v tv k rs ul wl goal a7 kp7 pr te lrs => ?_⟩
    obtain ⟨pt, rfl, hpt⟩ := pr
    have kp07 := (kp3'.trans kp46).trans kp7
    have bv7 := bv6.tk (TK.kp kp7 a6)
    obtain ⟨xa, dx, pu, pw, pg, uus, ws, rfl, hx, hpu, uv, hpw, wv, hpg⟩ := id te.tv
    obtain ⟨vw, hv, wvv⟩ := wv.at2 te.at_
    obtain ⟨pe, u, rfl, hp, rv⟩ := id wvv
    obtain ⟨ps, us2, rfl, hps, als⟩ := id rv
    refine ⟨pt, _, rfl, sq_tup hpt, rfl, _, _, rfl, _, _, rfl, rfl, ?_⟩
    refine ⟨_, rfl, xa, C, dx, _, _, rfl, hx, cc.cl, cc.nw, lk_w _ _ _, _, rfl, pw, _, (k : Int), .ref pe, rfl, rfl, sq_tup hpw, atI_nat hv, pe, _, 1, .ref ps, rfl, rfl, sq_tup hp, rfl, ?_⟩
    have hb : Bx box := fun p hp => (nar p hp).2.1
    have bxs : BxS box := fun p hp => by
      have := nar p hp
      unfold Sh12
      constructor <;> omega
    have okr : RsOk rs box.length := ⟨by omega, fun r hr => ⟨(te.ok r hr).len, (te.ok r hr).am⟩⟩
    have w5 := te.few
    have lus := als.len
    clear hx hpu uv hpw wv hpg wvv hp hpt a6 kp6 a5 kp5 bv6 kp46 kp7 a3' kp3' bv f1 f2 kq
    have fin' : ∀ H', Same H7 H' → Q (.bl true) H' := fun H' s' => fin _ (a7.same s') (kp07.trans (.of_same s'))
    -- the open sums
    refine ⟨fun σ H' => ∃ ov, σ = sg (some (.ref h)) (some (.int (size : Nat))) (some (.ref pb)) (some (.int sp)) y4 y5 (some (.ref xa)) (some (.int (k : Nat))) (some (.ref ps)) (some ov) none none none none none none ∧ LV H' ov (natI (opn rs box)) ∧ Same H7 H', ?_, fun σ H8 hM => ?_⟩
    · refine ⟨_, rfl, ps, _, rfl, .inr (sq_tup hps), _, rfl, by omega, by omega, fun D nD => ?_⟩
      refine lc_range (lo := 0) (n := ((us2.length : Nat) : Int).toNat) (fun i H' => H' D = some (tL (natI ((List.range i).filter (opP rs box)))) ∧ Same H7 H') ⟨upd_same, same_upd nD⟩ (fun i H8 hi hI => ?_) (fun H8 hI => ?_)
      · obtain ⟨hD, s7⟩ := hI
        rw [Int.toNat_natCast] at hi
        have hi2 : i < rs.length := by omega
        rw [show ((0 : Int) + (i : Nat)) = (i : Int) by omega]
        obtain ⟨u, hu, pr, qa, rfl, hpr, hqa⟩ := als.at2 (row_get hi2)
        obtain ⟨lr, ar⟩ := okr.2 _ (List.mem_of_getElem? (row_get hi2))
        refine ⟨rfl, _, rfl, _, rfl, ps, _, (i : Int), .ref pr, rfl, rfl, sq_tup (s7 _ _ hps), atI_nat hu, pr, _, 1, .ref qa, rfl, rfl, sq_tup (s7 _ _ hpr), rfl, _, rfl, .ref qa, .ref pb, (rowAt rs i).am, box, rfl, ⟨qa, rfl, s7 _ _ hqa⟩, bv7.same s7, lr, by omega, ar, fun H9 s9 => ?_⟩
        have s79 := s7.trans s9
        have e9 := s9 _ _ hD
        refine ⟨_, rfl, _, rfl, ps, _, (i : Int), .ref pr, rfl, rfl, sq_tup (s79 _ _ hps), atI_nat hu, pr, _, 3, _, rfl, rfl, sq_tup (s79 _ _ hpr), rfl, _, _, rfl, rfl, _, rfl, ite2 (fun z => ?_) (fun z => ?_)⟩
        · have z : opP rs box i = true := z
          refine ⟨_, rfl, _, e9, small1000 (by unfold natI; rw [List.length_map, List.length_map]; have := List.length_filter_le (opP rs box) (List.range i); rw [List.length_range] at this; omega), ?_, same_at s79 nD⟩
          rw [upd_same, natI_succ, if_pos z]
          unfold tL
          rw [List.map_append]; rfl
        · have z : ¬ opP rs box i = true := z
          refine ⟨?_, s79⟩
          rw [e9, natI_succ, if_neg z, List.append_nil]
      · obtain ⟨hD, s7⟩ := hI
        rw [Int.toNat_natCast, lus] at hD
        refine ⟨D, _, rfl, .inl ⟨sq_lst hD, fun l nl => ?_⟩⟩
        have kl := same_upd (o := .tup ((natI (opn rs box)).map V.int)) nl
        exact ⟨.ref l, rfl, ⟨l, rfl, upd_same⟩, s7.trans kl⟩
    obtain ⟨ov, rfl, lo, s8⟩ := hM
    refine ⟨_, rfl, _, rfl, _, rfl, _, rfl, .ref xa, .ref pb, ov, k, rs, ul, wl, goal, box, rfl, te.tk_same s8, bv7.same s8, by omega, hb, bxs, by omega, lo, fun H9 s9 => ⟨true, rfl, iteF ?_⟩⟩
    have s79 := s8.trans s9
    obtain ⟨po, rfl, hpo⟩ := lo.same s9
    refine ⟨_, rfl, _, rfl, _, rfl, .ref xa, .int (k : Nat), .ref pb, ul, wl, goal, box, rfl, (te.tk_same s79).tv, by omega, .inl ⟨k, rs, rfl, te.at_, bv7.same s79, by omega, hb, okr, fun ne HA sA => ?_, fun HA v B sA lst Bv => ?_⟩⟩
    · -- none is open
      have od : dueR rs box = [] := by
        cases h : dueR rs box with
        | nil => rfl
        | cons a t => exact absurd ((ei_iff okr hb).mpr (by rw [h]; simp)) ne
      have on : natI (opn rs box) = [] := by
        have : opn rs box = [] := by simpa [dueR] using od
        rw [this]; rfl
      rw [on] at hpo
      refine ⟨fun _ _ => False, ?_, fun σ H' hM => hM.elim⟩
      refine ⟨_, rfl, nil_ok, fun e0 ne0 => ?_⟩
      have k0 := same_upd (o := .tup []) ne0
      have s7B := (s79.trans sA).trans k0
      refine ⟨_, _, dpI ⟨po, rfl, k0 _ _ (sA _ _ hpo)⟩, dpI (a := []) ⟨e0, rfl, upd_same⟩, shpI _, shpI [], ?_⟩
      generalize upd HA e0 (.tup []) = HB at *
      rw [eqvI, decide_eq_true rfl]
      refine ⟨true, rfl, iteT ?_⟩
      refine iteT ?_
      refine ⟨_, rfl, nil_ok, fun e1 ne1 => ?_⟩
      have k1 := same_upd (o := .tup []) ne1
      have s7C := s7B.trans k1
      refine ⟨_, _, dpI ⟨po, rfl, k1 _ _ (k0 _ _ (sA _ _ hpo))⟩, dpI (a := []) ⟨e1, rfl, upd_same⟩, shpI _, shpI [], ?_⟩
      generalize upd HB e1 (.tup []) = HC at *
      rw [eqvI, decide_eq_true rfl]
      refine ⟨true, rfl, iteT ?_⟩
      exact ⟨_, rfl, _, rfl, _, rfl, .ref xa, .ref pb, .non, k, rs, ul, wl, goal, box, rfl, te.tk_same s7C, bv7.same s7C, by omega, by omega, hb, bxs, by omega, .inl ⟨rfl, ne⟩, fun H' s' => fin' _ (s7C.trans s')⟩
    · have lo' := lst_ok lst bxs
      have ei := lo'.ne (by omega)
      have od : natI (opn rs box) ≠ [] := fun e => by
        have e2 : opn rs box = [] := by simpa [natI] using e
        exact (ei_iff okr hb).mp ei (by unfold dueR; rw [e2]; rfl)
      have s7A := s79.trans sA
      obtain ⟨pB, Bs, rfl, hpB, alB⟩ := Bv
      have lB := alB.len
      have lBb := lo'.len
      refine ⟨fun σ H' => σ = sg (some (.ref h)) (some (.int (size : Nat))) (some (.ref pb)) (some (.int sp)) y4 y5 (some (.ref xa)) (some (.int (k : Nat))) (some (.ref ps)) (some (.ref po)) (some (.ref pB)) none none none none none ∧ Same HA H', ?_, fun σ HB hM => ?_⟩
      · refine ⟨_, rfl, nil_ok, fun e0 ne0 => ?_⟩
        have k0 := same_upd (o := .tup []) ne0
        refine ⟨_, _, dpI ⟨po, rfl, k0 _ _ (sA _ _ hpo)⟩, dpI (a := []) ⟨e0, rfl, upd_same⟩, shpI _, shpI [], ?_⟩
        generalize upd HA e0 (.tup []) = HB at *
        rw [eqvI, decide_eq_false od]
        refine ⟨false, rfl, iteF ?_⟩
        exact ⟨_, rfl, rfl, _, rfl, ite2 (fun z => absurd (of_decide_eq_true z) (fun z => by cases z)) (fun _ => ⟨rfl, k0⟩)⟩
      obtain ⟨rfl, sB⟩ := hM
      have s7B := s7A.trans sB
      obtain ⟨_, bs, eb, hpbB, albB⟩ := bv7.same s7B
      cases eb
      have lb2 := albB.len
      have hpBB := sB _ _ hpB
      have alBB : All2 (FV HB) Bs B := alB.mono fun v f g => FV.same g sB
      refine ⟨_, rfl, (size : Int), rfl, by omega, by omega, for_range (lo := 0) (n := ((size : Nat) : Int).toNat) (fun i σ H' => ∃ y4 y5 y11 y12 y13 y14 y15, σ = sg (some (.ref h)) (some (.int (size : Nat))) (some (.ref pb)) (some (.int sp)) y4 y5 (some (.ref xa)) (some (.int (k : Nat))) (some (.ref ps)) (some (.ref po)) (some (.ref pB)) y11 y12 y13 y14 y15 ∧ Same HB H')
        ⟨_, _, _, _, _, _, _, rfl, Same.refl _⟩ (fun i σ HC hi hI => ?_) (fun σ HC hI => ?_)⟩
      · obtain ⟨y4, y5, y11, y12, y13, y14, y15, rfl, sC⟩ := hI
        rw [Int.toNat_natCast] at hi
        rw [show ((0 : Int) + (i : Nat)) = (i : Int) by omega]
        have hib : i < box.length := by omega
        have ep : box[i]? = some (box[i]'hib) := List.getElem?_eq_getElem _
        have el : B[i]? = some (B[i]'(by omega)) := List.getElem?_eq_getElem _
        have sub := lst.sub (box := box) (fun x hx => by obtain ⟨r, _, k⟩ := hx; exact k.1) rfl i _ _ el ep
        generalize box[i]'hib = p at *
        generalize B[i]'(by omega) = l at *
        obtain ⟨u, hu, pp, rfl, hpp⟩ := albB.at2 ep
        obtain ⟨w2, hw2, ql, rfl, hql⟩ := alBB.at2 el
        refine ⟨_, rfl, _, rfl, pb, _, (i : Int), .ref pp, rfl, rfl, sq_tup (sC _ _ hpbB), atI_nat hu, _, rfl, _, rfl, pB, _, (i : Int), .ref ql, rfl, rfl, sq_tup (sC _ _ hpBB), atI_nat hw2, len2, fun tt ntt => ?_⟩
        have kt := same_upd (o := .tup [.ref pp, .ref ql]) ntt
        have ett : upd HC tt (.tup [.ref pp, .ref ql]) tt = some (.tup [.ref pp, .ref ql]) := upd_same
        have sD := sC.trans kt
        show gTup _ _ _ (.ref tt) _ (upd HC tt (.tup [.ref pp, .ref ql])) _
        generalize upd HC tt (.tup [.ref pp, .ref ql]) = HD at *
        refine ⟨tt, _, rfl, sq_tup ett, rfl, _, _, rfl, pp, _, rfl, sq_tup (sD _ _ hpp), rfl, _, _, rfl, _, _, rfl, rfl, _, _, rfl, ql, _, rfl, sq_tup (sD _ _ hql), rfl, _, _, rfl, _, _, rfl, rfl, rfl, ?_⟩
        refine ⟨_, rfl, _, rfl, _, _, rfl, rfl, _, rfl, ite2 (fun _ => ?_) (fun z => absurd (decide_eq_true sub.1) z)⟩
        refine ⟨_, rfl, _, _, rfl, rfl, _, rfl, ite2 (fun _ => ?_) (fun z => absurd (decide_eq_true sub.2.1) z)⟩
        refine ⟨_, rfl, _, _, rfl, rfl, _, rfl, ite2 (fun z => by rw [decide_eq_true sub.2.2] at z; cases z) (fun _ => ?_)⟩
        refine ⟨_, rfl, _, rfl, _, rfl, _, _, rfl, rfl, len2, fun b1 nb1 => ⟨len2, fun t1 nt1 => ?_⟩⟩
        have kb1 := same_upd (o := .tup [.int p.1, .int (l.1 - 1)]) nb1
        have eb1 : upd HD b1 (.tup [.int p.1, .int (l.1 - 1)]) b1 = some (.tup [.int p.1, .int (l.1 - 1)]) := upd_same
        generalize upd HD b1 (.tup [.int p.1, .int (l.1 - 1)]) = HE1 at *
        have kt1 := same_upd (o := .tup [.int l.1, .ref b1]) nt1
        have et1 : upd HE1 t1 (.tup [.int l.1, .ref b1]) t1 = some (.tup [.int l.1, .ref b1]) := upd_same
        show tCons _ _ _ (upd HE1 t1 (.tup [.int l.1, .ref b1])) _
        generalize upd HE1 t1 (.tup [.int l.1, .ref b1]) = HE2 at *
        refine ⟨_, rfl, _, rfl, _, _, rfl, rfl, _, rfl, len2, fun b2 nb2 => ⟨len2, fun t2 nt2 => ?_⟩⟩
        have kb2 := same_upd (o := .tup [.int (l.2 + 1), .int p.2]) nb2
        have eb2 : upd HE2 b2 (.tup [.int (l.2 + 1), .int p.2]) b2 = some (.tup [.int (l.2 + 1), .int p.2]) := upd_same
        generalize upd HE2 b2 (.tup [.int (l.2 + 1), .int p.2]) = HE3 at *
        have kt2 := same_upd (o := .tup [.int l.2, .ref b2]) nt2
        have et2 : upd HE3 t2 (.tup [.int l.2, .ref b2]) t2 = some (.tup [.int l.2, .ref b2]) := upd_same
        show tNil _ (upd HE3 t2 (.tup [.int l.2, .ref b2])) _
        generalize upd HE3 t2 (.tup [.int l.2, .ref b2]) = HE4 at *
        refine ⟨len2, fun LL nLL => ?_⟩
        have kLL := same_upd (o := .lst [.ref t1, .ref t2]) nLL
        have eLL : upd HE4 LL (.lst [.ref t1, .ref t2]) LL = some (.lst [.ref t1, .ref t2]) := upd_same
        have sBG : Same HB (upd HE4 LL (.lst [.ref t1, .ref t2])) := sD.trans (kb1.trans (kt1.trans (kb2.trans (kt2.trans kLL))))
        have e1G := kLL _ _ (kt2 _ _ (kb2 _ _ et1))
        have e2G := kLL _ _ et2
        have b1G := kLL _ _ (kt2 _ _ (kb2 _ _ (kt1 _ _ eb1)))
        have b2G := kLL _ _ (kt2 _ _ eb2)
        generalize upd HE4 LL (.lst [.ref t1, .ref t2]) = HG at *
        have hpbG := sBG _ _ hpbB
        have alG : All2 (FV HG) bs box := albB.mono fun v f g => FV.same g sBG
        have rvG : RsV HG (.ref ps) rs := rv.same (s7B.trans sBG)
        have turn : ∀ (j : Nat) (v : V), [V.ref t1, .ref t2][j]? = some v → ∃ (tj bj : Addr) (e : Int) (b : Fr), v = .ref tj ∧ HG tj = some (.tup [.int e, .ref bj]) ∧ HG bj = some (.tup [.int b.1, .int b.2]) ∧ noTop rs (putB box i (e, e)) = false ∧ (b.1 ≤ b.2 → noTop rs (putB box i b) = true) := fun j v hv => by
          match j, hv with
          | 0, hv =>
            cases hv
            exact ⟨t1, b1, l.1, (p.1, l.1 - 1), rfl, e1G, b1G, no_top_end lst el l.1 (.inl rfl), fun hle => no_top_beyond okr hb lst el ep hle (Int.le_refl _) (by show l.1 - 1 ≤ p.2; omega) (.inl (by show l.1 - 1 < l.1; omega))⟩
          | 1, hv =>
            cases hv
            exact ⟨t2, b2, l.2, (l.2 + 1, p.2), rfl, e2G, b2G, no_top_end lst el l.2 (.inr rfl), fun hle => no_top_beyond okr hb lst el ep hle (by show p.1 ≤ l.2 + 1; omega) (Int.le_refl _) (.inr (by show l.2 < l.2 + 1; omega))⟩
        refine ⟨LL, rfl, ⟨_, sq_lst eLL⟩, for_list (xs := [.ref t1, .ref t2]) (fun j σ H' => ∃ y14 y15, σ = sg (some (.ref h)) (some (.int (size : Nat))) (some (.ref pb)) (some (.int sp)) (some (.int (i : Nat))) (some (.int p.1)) (some (.ref xa)) (some (.int (k : Nat))) (some (.ref ps)) (some (.ref po)) (some (.ref pB)) (some (.int p.2)) (some (.int l.1)) (some (.int l.2)) y14 y15 ∧ Same HG H') ⟨_, _, rfl, Same.refl _⟩ (fun j σ H' _ hh => by obtain ⟨_, _, _, s⟩ := hh; exact sq_lst (s _ _ eLL)) (fun j v σ HI hv hI => ?_) (fun σ HI hI => ?_)⟩
        · obtain ⟨y14, y15, rfl, sG⟩ := hI
          obtain ⟨tj, bj, e, b, rfl, htj, hbj, n1, n2⟩ := turn j v hv
          refine ⟨tj, _, rfl, sq_tup (sG _ _ htj), rfl, _, _, rfl, _, _, rfl, rfl, ?_⟩
          refine ⟨fun σ H' => σ = sg (some (.ref h)) (some (.int (size : Nat))) (some (.ref pb)) (some (.int sp)) (some (.int (i : Nat))) (some (.int p.1)) (some (.ref xa)) (some (.int (k : Nat))) (some (.ref ps)) (some (.ref po)) (some (.ref pB)) (some (.int p.2)) (some (.int l.1)) (some (.int l.2)) (some (.int e)) (some (.ref bj)) ∧ Same HG H', ?_, fun σ HJ hM => ?_⟩
          · refine ⟨_, rfl, _, rfl, _, rfl, _, rfl, fvs_to (sG _ _ hpbG) (alG.mono fun v f g => FV.same g sG) (by omega) fun c1 v1 Hc1 sc1 hc1 ac1 => ?_⟩
            refine ⟨_, rfl, _, rfl, len2, fun m1 nm1 => ⟨one_ok, fun m2 nm2 => ?_⟩⟩
            have k1x := same_upd (o := .tup [.int e, .int e]) nm1
            have e1x : upd Hc1 m1 (.tup [.int e, .int e]) m1 = some (.tup [.int e, .int e]) := upd_same
            generalize upd Hc1 m1 (.tup [.int e, .int e]) = Hm1 at *
            have k2x := same_upd (o := .tup [.ref m1]) nm2
            have e3x : upd Hm1 m2 (.tup [.ref m1]) m2 = some (.tup [.ref m1]) := upd_same
            have fvx : FV (upd Hm1 m2 (.tup [.ref m1])) (.ref m1) (e, e) := ⟨m1, rfl, k2x _ _ e1x⟩
            have k3x := k1x.trans k2x
            refine cat_f (r1 := box.take i) (r2 := [(e, e)]) (k3x _ _ hc1) e3x (ac1.mono fun v f g => FV.same g k3x) (.cons fvx .nil) (by have := ac1.len; rw [List.length_take] at this; rw [List.length_singleton]; omega) fun c4 v4 Hc4 sc4 hc4 ac4 => ?_
            have s4x := (sG.trans sc1).trans (k3x.trans sc4)
            refine ⟨_, rfl, _, rfl, _, _, rfl, rfl, ((i + 1 : Nat) : Int), congrArg V.int (by omega : ((i : Nat) : Int) + 1 = ((i + 1 : Nat) : Int)), ?_⟩
            unfold tNoPart
            refine fvs_from (n := i + 1) (s4x _ _ hpbG) (alG.mono fun v f g => FV.same g s4x) (by omega) fun c5 v5 Hc5 sc5 hc5 ac5 => ?_
            refine cat_f (r1 := box.take i ++ [(e, e)]) (r2 := box.drop (i + 1)) (sc5 _ _ hc4) hc5 (ac4.mono fun v f g => FV.same g sc5) ac5 (by have h1 := ac4.len; have h2 := ac5.len; rw [List.length_append, List.length_take, List.length_singleton] at h1; rw [List.length_drop] at h2; omega) fun c6 v6 Hc6 sc6 hc6 ac6 => ?_
            have s6x := s4x.trans (sc5.trans sc6)
            have sv6 : SV Hc6 (.ref c6) (putB box i (e, e)) := ⟨c6, v6, rfl, hc6, ac6⟩
            have lpu := putB_len (e := (e, e)) hib
            refine ⟨.ref ps, .ref c6, rs, _, rfl, rvG.same s6x, sv6, by rw [lpu]; omega, by rw [lpu]; exact okr, fun H' s' => ⟨_, rfl, ite2 (fun z => by rw [n1] at z; cases z) (fun _ => ⟨rfl, s6x.trans s'⟩)⟩⟩
          · obtain ⟨rfl, sM⟩ := hM
            refine ⟨_, rfl, bj, _, 0, _, rfl, rfl, sq_tup (sM _ _ hbj), rfl, _, rfl, bj, _, 1, _, rfl, rfl, sq_tup (sM _ _ hbj), rfl, _, _, rfl, rfl, _, rfl, ite2 (fun z => ?_) (fun _ => iteF ⟨_, _, rfl, sM⟩)⟩
            have nb := n2 (of_decide_eq_true z)
            refine ⟨_, rfl, _, rfl, _, rfl, _, rfl, fvs_to (sM _ _ hpbG) (alG.mono fun v f g => FV.same g sM) (by omega) fun c1 v1 Hc1 sc1 hc1 ac1 => ?_⟩
            refine ⟨_, rfl, one_ok, fun m2 nm2 => ?_⟩
            have k3x := same_upd (o := .tup [.ref bj]) nm2
            have e3x : upd Hc1 m2 (.tup [.ref bj]) m2 = some (.tup [.ref bj]) := upd_same
            have fvx : FV (upd Hc1 m2 (.tup [.ref bj])) (.ref bj) b := ⟨bj, rfl, k3x _ _ (sc1 _ _ (sM _ _ hbj))⟩
            refine cat_f (r1 := box.take i) (r2 := [b]) (k3x _ _ hc1) e3x (ac1.mono fun v f g => FV.same g k3x) (.cons fvx .nil) (by have := ac1.len; rw [List.length_take] at this; rw [List.length_singleton]; omega) fun c4 v4 Hc4 sc4 hc4 ac4 => ?_
            have s4x := (sM.trans sc1).trans (k3x.trans sc4)
            refine ⟨_, rfl, _, rfl, _, _, rfl, rfl, ((i + 1 : Nat) : Int), congrArg V.int (by omega : ((i : Nat) : Int) + 1 = ((i + 1 : Nat) : Int)), ?_⟩
            unfold tNoPart
            refine fvs_from (n := i + 1) (s4x _ _ hpbG) (alG.mono fun v f g => FV.same g s4x) (by omega) fun c5 v5 Hc5 sc5 hc5 ac5 => ?_
            refine cat_f (r1 := box.take i ++ [b]) (r2 := box.drop (i + 1)) (sc5 _ _ hc4) hc5 (ac4.mono fun v f g => FV.same g sc5) ac5 (by have h1 := ac4.len; have h2 := ac5.len; rw [List.length_append, List.length_take, List.length_singleton] at h1; rw [List.length_drop] at h2; omega) fun c6 v6 Hc6 sc6 hc6 ac6 => ?_
            have s6x := s4x.trans (sc5.trans sc6)
            have sv6 : SV Hc6 (.ref c6) (putB box i b) := ⟨c6, v6, rfl, hc6, ac6⟩
            have lpu := putB_len (e := b) hib
            refine ⟨.ref ps, .ref c6, rs, _, rfl, rvG.same s6x, sv6, by rw [lpu]; omega, by rw [lpu]; exact okr, fun H' s' => ⟨_, rfl, ite2 (fun z => by rw [nb] at z; cases z) (fun _ => ⟨_, _, rfl, s6x.trans s'⟩)⟩⟩
        · obtain ⟨y14, y15, rfl, sG⟩ := hI
          exact ⟨_, _, _, _, _, _, _, rfl, sBG.trans sG⟩
      · obtain ⟨y4, y5, y11, y12, y13, y14, y15, rfl, sC⟩ := hI
        have s7C := s7B.trans sC
        exact ⟨_, rfl, _, rfl, _, rfl, _, rfl, .ref xa, .ref pb, .ref pB, k, rs, ul, wl, goal, box, rfl, te.tk_same s7C, bv7.same s7C, by omega, by omega, hb, bxs, by omega, .inr ⟨B, ⟨pB, Bs, rfl, sC _ _ hpBB, alBB.mono fun v f g => FV.same g sC⟩, lst⟩, fun H' s' => fin' _ (s7C.trans s')⟩
end
end M66

namespace M66
open PySem PySem.Spec PyProof.Rows L2 SX Own Gd
open C8 (Cal pe_c pe_gc pe_mk Mak pss_cut)
/-! ### the law -/
theorem rev3_of {ws : List Value} (h : ws.reverse.length = 3) : ∃ a b c, ws = [a, b, c] := by
  rw [List.length_reverse] at h
  match ws, h with
  | [a, b, c], _ => exact ⟨a, b, c, rfl⟩
theorem mkK3 {P : Program} {w : World} {K : PySem.W.Frag} {mg : Str → Option Value} {base : Heap} {x p1 p2 p3 : Str} {st : Stmt} {f : Addr} {fd : FuncData} {k : Nat} {sp : Sp} {CX : CXT} (F : Fun K x x st f fd) (ok : FnOk P w K mg base CX k f fd [p1, p2, p3] sp) (hC : CX = CX0 ∨ CX = L2.CX P w) (g : mg x = some (.ref f))
    (h : ∀ (kV doc pm : Value) (an : Option Addr) (cdv ct : Value) (a b c : Value), bindArgs (PySem.W.fnOf x x (defArgs st) (defBody st) (defScope st) .none kV doc pm an cdv ct) ⟨[], [p3, p2, p1].zip [a, b, c]⟩ = pure ([p1, p2, p3].zip [c, b, a])) : CalK P w K mg base k x [p3, p2, p1] List.reverse sp := by
  have kp := F.kp
  obtain ⟨oc, od, kV, doc, pm, an, cdv, ct, osl, rfl, lk, hc⟩ := F.ex
  refine ⟨⟨f, _, [p1, p2, p3], List.reverse, CX, hC, ok, g, kp, fun s ws hl => ?_, fun _ _ r => r.reverse⟩⟩
  obtain ⟨a, b, c, rfl⟩ := rev3_of hl
  exact .of_eq (h kV doc pm an cdv ct a b c)
theorem seq_kpn {K : PySem.W.Frag} {a h q : Addr} {H H' : Hp} {xs : List V} (x : SqL K H a xs) (k : KpN h q H H') (n1 : H h = none) (n2 : H q = none) : SqL K H' a xs := by
  rcases x with (e | ⟨o, e⟩) | e
  · exact .inl (.inl (k _ _ e (fun z => by rw [z, n1] at e; cases e) (fun z => by rw [z, n2] at e; cases e) (fun ps z => by cases z)))
  · exact .inl (.inr ⟨o, k _ _ e (fun z => by rw [z, n1] at e; cases e) (fun z => by rw [z, n2] at e; cases e) (fun ps z => by cases z)⟩)
  · exact .inr e
theorem KpN.same {h q : Addr} {H H1 H2 : Hp} (k : KpN h q H H1) (s : Same H1 H2) : KpN h q H H2 := fun b o e n1 n2 n3 => s _ _ (k b o e n1 n2 n3)
theorem KpN.kp {h q : Addr} {H H1 H2 : Hp} (k : KpN h q H H1) (s : Kpt h q H1 H2) : KpN h q H H2 := fun b o e n1 n2 n3 => s _ _ (k b o e n1 n2 n3) n1 n2
abbrev sz2F (ns : List Int) : Int := 2 + (if decide ((1 : Int) < ((ns.map V.int).length : Nat)) = true then 1 else 0)
theorem sz2_in (ns : List Int) : 2 ≤ sz2F ns ∧ sz2F ns ≤ 3 := by unfold sz2F; split <;> omega
def szs : List Int := [2, 1, 2]
theorem szs_in : ∀ c ∈ szs, 1 ≤ c ∧ c ≤ 2 := by decide
def rA : Row := ⟨[2, 0], false, 5⟩
def rB : Row := ⟨[1, 1], false, 9⟩
def rC : Row := ⟨[0 - 1, 0], false, 2⟩
def rs3 : List Row := [rA, rB, rC]
def bxA : List Fr := [(0, 4), (0, 6)]
def bxB : List Fr := [(0, 4), (0, 4)]
def bxC : List Fr := [(0, 2), (0, 6)]
def lsA : List Fr := [(3, 4), (0, 6)]
theorem ok3 : RsOk rs3 2 := ⟨by decide, fun r hr => by
  rcases List.mem_cons.mp hr with e | e
  · rw [e]; exact ⟨rfl, by unfold Am rA; decide⟩
  · rcases List.mem_cons.mp e with e | e
    · rw [e]; exact ⟨rfl, by unfold Am rB; decide⟩
    · rw [List.mem_singleton.mp e]; exact ⟨rfl, by unfold Am rC; decide⟩⟩
theorem opA : natI (opn rs3 bxA) = [0, 1] := by decide +kernel
theorem dueB : dueR rs3 bxB = [rA] := rfl
theorem dueC : dueR rs3 bxC = [] := rfl
theorem bxAok : Bx bxA := by unfold Bx bxA; decide
theorem bxCok : Bx bxC := by unfold Bx bxC; decide
theorem noC : ¬ ∃ x, Ei bxC rs3 x := fun h => (ei_iff (box := bxC) ok3 bxCok).mp h dueC
theorem inA {a b : Int} (h1 : 0 ≤ a) (h2 : a ≤ 4) (h3 : 0 ≤ b) (h4 : b ≤ 6) : InB [a, b] bxA := .cons h1 h2 (.cons h3 h4 .nil)
theorem eiA {a b : Int} (h1 : 3 ≤ a) (h2 : a ≤ 4) (h3 : 0 ≤ b) (h4 : b ≤ 6) : Ei bxA rs3 [a, b] :=
  ⟨rA, by simp [rs3], inA (by omega) h2 h3 h4, by show 5 ≤ 2 * a + (0 * b + 0); omega⟩
theorem lstA : Lst (Ei bxA rs3) 2 lsA := by
  refine ⟨rfl, fun k p e => ?_, fun k p e x c hx ec => ?_⟩
  · match k, e with
    | 0, e => cases e; exact ⟨⟨[3, 0], eiA (by decide) (by decide) (by decide) (by decide), rfl⟩, ⟨[4, 0], eiA (by decide) (by decide) (by decide) (by decide), rfl⟩⟩
    | 1, e => cases e; exact ⟨⟨[3, 0], eiA (by decide) (by decide) (by decide) (by decide), rfl⟩, ⟨[3, 6], eiA (by decide) (by decide) (by decide) (by decide), rfl⟩⟩
  · obtain ⟨r, mr, inb, hr⟩ := hx
    cases inb with
    | @cons a _ _ _ h1 h2 t =>
      cases t with
      | @cons b _ _ _ h3 h4 t2 =>
        cases t2
        have h1 : (0 : Int) ≤ _ := h1
        have h2 : _ ≤ (4 : Int) := h2
        have h3 : (0 : Int) ≤ _ := h3
        have h4 : _ ≤ (6 : Int) := h4
        have a3 : 3 ≤ a := by
          rcases List.mem_cons.mp mr with z | z
          · rw [z] at hr
            have hr : (5 : Int) ≤ 2 * a + (0 * b + 0) := hr
            omega
          · rcases List.mem_cons.mp z with z | z
            · rw [z] at hr
              have hr : (9 : Int) ≤ 1 * a + (1 * b + 0) := hr
              omega
            · rw [List.mem_singleton.mp z] at hr
              have hr : (2 : Int) ≤ (0 - 1) * a + (0 * b + 0) := hr
              omega
        match k, e with
        | 0, e => cases e; cases ec; exact ⟨a3, h2⟩
        | 1, e => cases e; cases ec; exact ⟨h3, h4⟩
def ul3 : List Unk := [("x", 0, 4), ("y", 0, 6)]
theorem uok3 : UnkOk ul3 := by
  refine ⟨by decide, by decide, fun u hu => ?_, fun u hu => ?_, fun i u v e1 e2 => ?_⟩
  · rcases List.mem_cons.mp hu with e | e
    · rw [e]; exact nm_of (s := "x") (by decide +kernel)
    · rw [List.mem_singleton.mp e]; exact nm_of (s := "y") (by decide +kernel)
  · rcases List.mem_cons.mp hu with e | e
    · rw [e]; decide
    · rw [List.mem_singleton.mp e]; decide
  · match i, e1, e2 with
    | 0, e1, e2 => cases e1; cases e2; exact (by decide +kernel : ("x" : Str).cps.toList < ("y" : Str).cps.toList)
    | 1, e1, e2 => cases e2
def wl3 : List Wish := [.sum ⟨[1, 0], false, 0⟩, .either rs3]
theorem wok3 : ∀ z ∈ wl3, WishOk 2 z := fun z hz => by
  rcases List.mem_cons.mp hz with e | e
  · rw [e]; exact ⟨⟨rfl, 1, by decide, by decide⟩, by decide⟩
  · rw [List.mem_singleton.mp e]
    refine ⟨by decide, by decide, fun r hr => ?_, by decide⟩
    rcases List.mem_cons.mp hr with e | e
    · rw [e]; exact ⟨⟨rfl, 2, by decide, by decide⟩, rfl⟩
    · rcases List.mem_cons.mp e with e | e
      · rw [e]; exact ⟨⟨rfl, 1, by decide, by decide⟩, rfl⟩
      · rw [List.mem_singleton.mp e]; exact ⟨⟨rfl, 0 - 1, by decide, by decide⟩, rfl⟩
theorem shA : SeqAt.shaped (dBox lsA) = true := by decide +kernel
theorem shRA : SeqAt.shaped (dRow rA) = true := by decide +kernel
theorem bxCs : BxS bxC := by unfold BxS bxC Sh12; decide
/-- a written box of two pairs -/
theorem bxV {H : Hp} {b1 b2 bb : Addr} {f g : Fr} (n1 : H b1 = none) (n2 : upd H b1 (.tup [.int f.1, .int f.2]) b2 = none) (n3 : upd (upd H b1 (.tup [.int f.1, .int f.2])) b2 (.tup [.int g.1, .int g.2]) bb = none) :
    Same H (upd (upd (upd H b1 (.tup [.int f.1, .int f.2])) b2 (.tup [.int g.1, .int g.2])) bb (.tup [.ref b1, .ref b2])) ∧ SV (upd (upd (upd H b1 (.tup [.int f.1, .int f.2])) b2 (.tup [.int g.1, .int g.2])) bb (.tup [.ref b1, .ref b2])) (.ref bb) [f, g] := by
  have k1 := same_upd (o := .tup [.int f.1, .int f.2]) n1
  have k2 := same_upd (o := .tup [.int g.1, .int g.2]) n2
  have k3 := same_upd (o := .tup [.ref b1, .ref b2]) n3
  exact ⟨k1.trans (k2.trans k3), bb, _, rfl, upd_same, .cons ⟨b1, rfl, k3 _ _ (k2 _ _ upd_same)⟩ (.cons ⟨b2, rfl, k3 _ _ upd_same⟩ .nil)⟩
section
variable {P : Program} {w : World} {K : PySem.W.Frag} {mg : Str → Option Value} {base : Heap} {aW aT : Addr} {es : Array DictEntry} {nn : Nat}
abbrev s_law : Stmt := topS 65
abbrev n_law : List Str := ["script", "heap", "turn", "size", "many", "sums", "task"]
theorem sc_law : FnScope n_law ["script"] (defScope s_law) := ⟨rfl, rfl, rfl, by decide +kernel, rfl, by decide +kernel, by decide +kernel⟩
def spLaw (K : PySem.W.Frag) (T : List (Addr × Str)) : Sp := fun vs H Q _ => ∃ (a : Addr) (ns : List Int), vs = [.ref a] ∧ SqL K H a (ns.map V.int) ∧ ns.length ≤ 63 ∧ LamX.Tabs T H ∧ ∀ H', Q (.bl true) H'
structure LawC (P : Program) (w : World) (K : PySem.W.Frag) (mg : Str → Option Value) (base : Heap) (C CR : Addr) (T : List (Addr × Str)) : Prop where
  heap : Cal P w K mg base 1 "_law_heap" (spHeap K) []
  draw : Cal P w K mg base 1 "_law_draw" spDraw []
  pick : Cal P w K mg base 2 "_law_pick" spPickL []
  small : CalG P w K mg base 14 "_law_small_right" (spSmall T)
  great : CalG P w K mg base 13 "_law_great_right" spGreat
  mak : Mak P w K mg base 8 "Task" C (spTask C) []
  open_ : CalX P w K mg base 8 "open_sums" (spOpen C CR)
  left : CalX P w K mg base 8 "either_left" (spLeft C CR)
  box : CalX P w K mg base 8 "either_box" (spBox C CR)
theorem ok_law {f C CR : Addr} {T0 : List (Addr × Str)} {fd : FuncData} (F : Fun K "law" "law" s_law f fd) (T : Txt K mg w aW aT es nn) (cc : CC K C) (LC : LawC P w K mg base C CR T0) : FnG P w K mg base CX0 15 f fd ["script"] (spLaw K T0) := by
  obtain ⟨c_Lheap, c_Ldraw, c_Lpick, c_Lsmall_right, c_Lgreat_right, m_Task, x_open_sums, x_either_left, x_either_box⟩ := LC
  refine fun_okG F sc_law (fun vs H Q E h => ?_) (fun cdv A outer s0 H vs Q E hgd hr h => ?_)
  · obtain ⟨a, ns, rfl, _⟩ := h
    rfl
  · obtain ⟨a, ns, rfl, hS, hlen, ht, fin⟩ := h
    refine ⟨_, (pss_cons (ps_set (i := 1) sc_law.nd rfl (.inl rfl) (pe_c c_Lheap hr (by decide) (by rfl) (pa_cons (pv 0) pa_nil)))
      (pss_cut (ps_for PassesOwn.never rfl (pi_range1 (by rfl) T.b_range (pa_cons (pe_op op_add pe_int (pe_callTy call_int1 (by rfl) T.b_int (by decide +kernel) (pa_cons (pe_cmpR op_gt (pe_callB call_len_seq (by rfl) T.b_len (by decide +kernel) (pa_cons (pv 0) pa_nil)) pe_int (nomark _)) pa_nil))) pa_nil)) (pg_name (i := 2) sc_law.nd rfl (.inl rfl)) (pss_cons (ps_for PassesOwn.never rfl (pi_list (pe_lst (pa_cons (pe_tup (pa_cons (pe_c c_Lpick hr (by decide) (by rfl) (pa_cons (pv 1) (pa_cons (pe_lst (pa_cons pe_int (pa_cons pe_int (pa_cons pe_int pa_nil)))) pa_nil))) (pa_cons (pe_op op_add pe_int (pe_c c_Ldraw hr (by decide) (by rfl) (pa_cons (pv 1) (pa_cons pe_int pa_nil)))) pa_nil))) (pa_cons (pe_tup (pa_cons (pe_op op_add pe_int (pe_callTy call_int1 (by rfl) T.b_int (by decide +kernel) (pa_cons (pe_cmpR op_gt (pe_callB call_len_seq (by rfl) T.b_len (by decide +kernel) (pa_cons (pv 0) pa_nil)) pe_int (nomark _)) pa_nil))) (pa_cons (pe_op op_add pe_int (pe_c c_Ldraw hr (by decide) (by rfl) (pa_cons (pv 1) (pa_cons pe_int pa_nil)))) pa_nil))) pa_nil)))) (pg_tup rfl (pgs_cons (pg_name (i := 3) sc_law.nd rfl (.inl rfl)) (pgs_cons (pg_name (i := 4) sc_law.nd rfl (.inl rfl)) pgs_nil))) (pss_one (ps_if (pt_not (pt_val (pe_cG hgd c_Lsmall_right hr (by decide) (by rfl) (pa_cons (pv 1) (pa_cons (pv 3) (pa_cons (pv 4) pa_nil)))))) (pss_one (ps_ret pe_bl)) pss_nil)))
        (pss_one (ps_if (pt_not (pt_val (pe_cG hgd c_Lgreat_right hr (by decide) (by rfl) (pa_cons (pv 1) (pa_cons (pe_op op_add pe_int (pe_c c_Ldraw hr (by decide) (by rfl) (pa_cons (pv 1) (pa_cons pe_int pa_nil)))) pa_nil))))) (pss_one (ps_ret pe_bl)) pss_nil))))
      (pss_cons (ps_set (i := 5) sc_law.nd rfl (.inl rfl) (pe_tup (pa_cons (pe_tup (pa_cons pe_str (pa_cons (pe_tup (pa_cons pe_int (pa_cons pe_int pa_nil))) (pa_cons pe_bl (pa_cons pe_int pa_nil))))) (pa_cons (pe_tup (pa_cons pe_str (pa_cons (pe_tup (pa_cons pe_int (pa_cons pe_int pa_nil))) (pa_cons pe_bl (pa_cons pe_int pa_nil))))) (pa_cons (pe_tup (pa_cons pe_str (pa_cons (pe_tup (pa_cons (pe_op op_sub pe_int pe_int) (pa_cons pe_int pa_nil))) (pa_cons pe_bl (pa_cons pe_int pa_nil))))) pa_nil)))))
      (pss_cons (ps_set (i := 6) sc_law.nd rfl (.inl rfl) (pe_mk m_Task hr (by decide) (by rfl) (pa_cons (pe_tup (pa_cons (pe_tup (pa_cons pe_str (pa_cons pe_int (pa_cons pe_int pa_nil)))) (pa_cons (pe_tup (pa_cons pe_str (pa_cons pe_int (pa_cons pe_int pa_nil)))) pa_nil))) (pa_cons (pe_tup (pa_cons (pe_tup (pa_cons pe_str (pa_cons (pe_tup (pa_cons pe_int (pa_cons pe_int pa_nil))) (pa_cons pe_bl (pa_cons pe_int pa_nil))))) (pa_cons (pe_tup (pa_cons pe_str (pa_cons (pv 5) pa_nil))) pa_nil))) (pa_cons (pe_tup (pa_cons pe_int (pa_cons pe_int pa_nil))) pa_nil)))))
      (pss_cons (ps_if (PW.pt (pw_or (pt_cmpR (op_neD hr.units) (pe_x x_open_sums hr (by decide) (by rfl) (pa_cons (pv 6) (pa_cons pe_int (pa_cons (pe_tup (pa_cons (pe_tup (pa_cons pe_int (pa_cons pe_int pa_nil))) (pa_cons (pe_tup (pa_cons pe_int (pa_cons pe_int pa_nil))) pa_nil))) pa_nil)))) (pe_tup (pa_cons pe_int (pa_cons pe_int pa_nil))) (nomark _)) (pw_or1 (pt_cmpR (op_neD hr.units) (pe_x x_either_box hr (by decide) (by rfl) (pa_cons (pv 6) (pa_cons pe_int (pa_cons (pe_tup (pa_cons (pe_tup (pa_cons pe_int (pa_cons pe_int pa_nil))) (pa_cons (pe_tup (pa_cons pe_int (pa_cons pe_int pa_nil))) pa_nil))) pa_nil)))) (pe_tup (pa_cons (pe_tup (pa_cons pe_int (pa_cons pe_int pa_nil))) (pa_cons (pe_tup (pa_cons pe_int (pa_cons pe_int pa_nil))) pa_nil))) (nomark _))))) (pss_one (ps_ret pe_bl)) pss_nil)
      (pss_one (ps_ret (pe_and (pe_cmpR (op_eqD hr.units) (pe_x x_either_left hr (by decide) (by rfl) (pa_cons (pv 6) (pa_cons pe_int (pa_cons (pe_tup (pa_cons (pe_tup (pa_cons pe_int (pa_cons pe_int pa_nil))) (pa_cons (pe_tup (pa_cons pe_int (pa_cons pe_int pa_nil))) pa_nil))) pa_nil)))) (pe_ix ix_tup (pv 5) pe_int (fun _ _ => rfl)) (nomark _)) (pe_one (pe_cmpR op_isN (pe_x x_either_box hr (by decide) (by rfl) (pa_cons (pv 6) (pa_cons pe_int (pa_cons (pe_tup (pa_cons (pe_tup (pa_cons pe_int (pa_cons pe_int pa_nil))) (pa_cons (pe_tup (pa_cons pe_int (pa_cons pe_int pa_nil))) pa_nil))) pa_nil)))) pe_non (nomark _))))))))))), ?_⟩
    refine ⟨_, rfl, a, ns, rfl, hS, hlen, fun H1 h q s1 nh nq a1 => ?_⟩
    have ht1 : LamX.Tabs T0 H1 := fun p hp => (ht p hp).ext s1
    have k01 : KpN h q H H1 := .of (.of_same s1) (.refl _)
    refine ⟨fun σ H' => ∃ y2 y3 y4, σ = [some (.ref a), some (.ref h), y2, y3, y4, none, none] ∧ HpAt H' h q ∧ KpN h q H H' ∧ LamX.Tabs T0 H', ?_, fun σ H2 hM => ?_⟩
    · refine ⟨_, rfl, a, _, rfl, .inl (seq_kpn hS k01 nh nq), _, _, rfl, rfl, .inr ⟨_, rfl, _, _, rfl, rfl, _, rfl, ?_, ?_, for_range (lo := 0) (fun i σ H' => ∃ y2 y3 y4, σ = [some (.ref a), some (.ref h), y2, y3, y4, none, none] ∧ HpAt H' h q ∧ KpN h q H H' ∧ LamX.Tabs T0 H')
        ⟨none, none, none, rfl, a1, k01, ht1⟩ (fun i σ H2 _ hI => ?_) (fun σ H2 hI => hI)⟩⟩
      · split <;> omega
      · split <;> omega
      · obtain ⟨y2, y3, y4, rfl, a2, kn2, tt2⟩ := hI
        refine ⟨_, rfl, len3, fun pk npk => ?_⟩
        have kq := same_upd (o := .lst (szs.map V.int)) npk
        obtain ⟨f1, f2⟩ := a2.fresh npk
        refine ⟨h, q, pk, szs.map V.int, rfl, a2.same kq, upd_same, f1, f2, by simp [szs], by show 3 ≤ 1000; decide, fun v H3 mv a3 kp3 => ?_⟩
        obtain ⟨z1, hz1, rfl⟩ := int_of mv
        have bz1 := szs_in z1 hz1
        have kp23 := (Kpt.of_same (h := h) (q := q) kq).trans kp3
        have kn3 := kn2.kp kp23
        have tt3 := tabs_kp tt2 a2 kp23
        refine ⟨_, rfl, h, q, 2, rfl, a3, by decide, by decide, fun d1 H4 d10 d11 a4 kp4 => ⟨_, _, rfl, rfl, len2, fun t1 nt1 => ?_⟩⟩
        have kn4 := kn3.kp kp4
        have tt4 := tabs_kp tt3 a3 kp4
        have k1 := same_upd (o := .tup [.int z1, .int (2 + d1)]) nt1
        have e1 : upd H4 t1 (.tup [.int z1, .int (2 + d1)]) t1 = some (.tup [.int z1, .int (2 + d1)]) := upd_same
        have a5 := a4.same k1
        have kn5 := kn4.same k1
        have tt5 : LamX.Tabs T0 (upd H4 t1 (.tup [.int z1, .int (2 + d1)])) := fun p hp => (tt4 p hp).ext k1
        show tCons _ _ _ (upd H4 t1 (.tup [.int z1, .int (2 + d1)])) _
        generalize upd H4 t1 (.tup [.int z1, .int (2 + d1)]) = H5 at *
        refine ⟨_, rfl, a, _, rfl, .inl (seq_kpn hS kn5 nh nq), _, _, rfl, rfl, .inr ⟨_, rfl, _, _, rfl, rfl, _, rfl, h, q, 5, rfl, a5, by decide, by decide, fun d2 H6 d20 d21 a6 kp6 => ⟨_, _, rfl, rfl, len2, fun t2 nt2 => ?_⟩⟩⟩
        have bz2 := sz2_in ns
        have kn6 := kn5.kp kp6
        have tt6 := tabs_kp tt5 a5 kp6
        have e1 := (TK.kp kp6 a5) _ _ e1
        have k2 := same_upd (o := .tup [.int (sz2F ns), .int (2 + d2)]) nt2
        have e2 : upd H6 t2 (.tup [.int (sz2F ns), .int (2 + d2)]) t2 = some (.tup [.int (sz2F ns), .int (2 + d2)]) := upd_same
        have a7 := a6.same k2
        have kn7 := kn6.same k2
        have tt7 : LamX.Tabs T0 (upd H6 t2 (.tup [.int (sz2F ns), .int (2 + d2)])) := fun p hp => (tt6 p hp).ext k2
        have e1 := k2 _ _ e1
        show tNil _ (upd H6 t2 (.tup [.int (sz2F ns), .int (2 + d2)])) _
        generalize upd H6 t2 (.tup [.int (sz2F ns), .int (2 + d2)]) = H7 at *
        refine ⟨len2, fun LL nLL => ?_⟩
        have k3 := same_upd (o := .lst [.ref t1, .ref t2]) nLL
        have eLL : upd H7 LL (.lst [.ref t1, .ref t2]) LL = some (.lst [.ref t1, .ref t2]) := upd_same
        have a8 := a7.same k3
        have kn8 := kn7.same k3
        have tt8 : LamX.Tabs T0 (upd H7 LL (.lst [.ref t1, .ref t2])) := fun p hp => (tt7 p hp).ext k3
        have e1 := k3 _ _ e1
        have e2 := k3 _ _ e2
        obtain ⟨LL1, LL2⟩ := a7.fresh nLL
        generalize upd H7 LL (.lst [.ref t1, .ref t2]) = H8 at *
        have turn : ∀ (j : Nat) (v : V), [V.ref t1, .ref t2][j]? = some v → ∃ (tj : Addr) (sz : Nat) (mn : Int), v = .ref tj ∧ H8 tj = some (.tup [.int (sz : Nat), .int mn]) ∧ 1 ≤ sz ∧ sz ≤ 3 ∧ 2 ≤ mn ∧ mn ≤ 6 := fun j v hv => by
          match j, hv with
          | 0, hv =>
            cases hv
            exact ⟨t1, z1.toNat, 2 + d1, rfl, by rw [Int.toNat_of_nonneg (by omega)]; exact e1, by omega, by omega, by omega, by omega⟩
          | 1, hv =>
            cases hv
            exact ⟨t2, (sz2F ns).toNat, 2 + d2, rfl, by rw [Int.toNat_of_nonneg (by omega)]; exact e2, by omega, by omega, by omega, by omega⟩
        have tne : ∀ (t : Addr) (xs : List V), H8 t = some (.tup xs) → t ≠ h ∧ t ≠ q := fun t xs e => by
          obtain ⟨cs, st, a⟩ := a8
          exact ⟨(fun z => by rw [z, a.hh] at e; cases e), (fun z => by rw [z, a.hq] at e; cases e)⟩
        refine ⟨LL, rfl, ⟨_, sq_lst eLL⟩, for_list (xs := [.ref t1, .ref t2]) (fun j σ H' => ∃ y3 y4, σ = [some (.ref a), some (.ref h), some (.int (0 + (i : Nat))), y3, y4, none, none] ∧ HpAt H' h q ∧ KpN h q H8 H' ∧ LamX.Tabs T0 H') ⟨y3, y4, rfl, a8, .of (.refl _ _ _) (.refl _), tt8⟩ (fun j σ H' _ hh => by obtain ⟨_, _, _, _, kk, _⟩ := hh; exact sq_lst (kk _ _ eLL LL1 LL2 (fun ps z => by cases z))) (fun j v σ H9 hv hI => ?_) (fun σ H9 hI => ?_)⟩
        · obtain ⟨y3, y4, rfl, a9, kn9, tt9⟩ := hI
          obtain ⟨tj, sz, mn, rfl, etj, h1, h2, h3, h4⟩ := turn j v hv
          obtain ⟨n1, n2⟩ := tne _ _ etj
          have etj9 := kn9 _ _ etj n1 n2 (fun ps z => by cases z)
          refine ⟨tj, _, rfl, sq_tup etj9, rfl, _, _, rfl, _, _, rfl, rfl, ?_⟩
          refine ⟨_, rfl, _, rfl, _, rfl, h, q, sz, mn, rfl, a9, h1, h2, h3, h4, tt9, fun HA aA knA ttA => ⟨true, rfl, iteF ⟨_, _, rfl, aA, kn9.trans knA, ttA⟩⟩⟩
        · obtain ⟨y3, y4, rfl, a9, kn9, tt9⟩ := hI
          refine ⟨_, rfl, _, rfl, h, q, 5, rfl, a9, by decide, by decide, fun d HA d0 d1 aA kpA => ⟨_, _, rfl, rfl, h, q, (1 + d).toNat, by rw [Int.toNat_of_nonneg (by omega)]; rfl, aA, by omega, by omega, fun HB aB kpB => ⟨true, rfl, iteF ?_⟩⟩⟩
          have kpAB := kpA.trans kpB
          exact ⟨_, _, _, rfl, aB, (kn8.trans kn9).kp kpAB, tabs_kp tt9 a9 kpAB⟩
    obtain ⟨y2, y3, y4, rfl, a2, kn2, tt2⟩ := hM
    -- the sums told
    refine ⟨len2, fun q1 nq1 => ⟨(by show 4 ≤ sizeLine; decide), fun t1 nt1 => ⟨len2, fun q2 nq2 => ⟨(by show 4 ≤ sizeLine; decide), fun t2 nt2 => ⟨_, _, rfl, rfl, len2, fun q3 nq3 => ⟨(by show 4 ≤ sizeLine; decide), fun t3 nt3 => ⟨(by show 3 ≤ sizeLine; decide), fun S nS => ?_⟩⟩⟩⟩⟩⟩⟩
    refine ⟨(by show 3 ≤ sizeLine; decide), fun u1 nu1 => ⟨(by show 3 ≤ sizeLine; decide), fun u2 nu2 => ⟨len2, fun U nU => ⟨len2, fun wq nwq => ⟨(by show 4 ≤ sizeLine; decide), fun w1 nw1 => ⟨_, rfl, len2, fun we nwe => ⟨len2, fun W nW => ⟨len2, fun g ng => ?_⟩⟩⟩⟩⟩⟩⟩⟩
    have k_q1 := same_upd (H := H2) (o := .tup [.int 2, .int 0]) nq1
    have e_q1 : upd H2 q1 (.tup [.int 2, .int 0]) q1 = some (.tup [.int 2, .int 0]) := upd_same
    have k_t1 := same_upd (H := (upd H2 q1 (.tup [.int 2, .int 0]))) (o := .tup [.str "sum", .ref q1, .bl false, .int 5]) nt1
    have e_t1 : upd (upd H2 q1 (.tup [.int 2, .int 0])) t1 (.tup [.str "sum", .ref q1, .bl false, .int 5]) t1 = some (.tup [.str "sum", .ref q1, .bl false, .int 5]) := upd_same
    have e_q1 := k_t1 _ _ e_q1
    have k_q2 := same_upd (H := (upd (upd H2 q1 (.tup [.int 2, .int 0])) t1 (.tup [.str "sum", .ref q1, .bl false, .int 5]))) (o := .tup [.int 1, .int 1]) nq2
    have e_q2 : upd (upd (upd H2 q1 (.tup [.int 2, .int 0])) t1 (.tup [.str "sum", .ref q1, .bl false, .int 5])) q2 (.tup [.int 1, .int 1]) q2 = some (.tup [.int 1, .int 1]) := upd_same
    have e_q1 := k_q2 _ _ e_q1
    have e_t1 := k_q2 _ _ e_t1
    have k_t2 := same_upd (H := (upd (upd (upd H2 q1 (.tup [.int 2, .int 0])) t1 (.tup [.str "sum", .ref q1, .bl false, .int 5])) q2 (.tup [.int 1, .int 1]))) (o := .tup [.str "sum", .ref q2, .bl false, .int 9]) nt2
    have e_t2 : upd (upd (upd (upd H2 q1 (.tup [.int 2, .int 0])) t1 (.tup [.str "sum", .ref q1, .bl false, .int 5])) q2 (.tup [.int 1, .int 1])) t2 (.tup [.str "sum", .ref q2, .bl false, .int 9]) t2 = some (.tup [.str "sum", .ref q2, .bl false, .int 9]) := upd_same
    have e_q1 := k_t2 _ _ e_q1
    have e_t1 := k_t2 _ _ e_t1
    have e_q2 := k_t2 _ _ e_q2
    have k_q3 := same_upd (H := (upd (upd (upd (upd H2 q1 (.tup [.int 2, .int 0])) t1 (.tup [.str "sum", .ref q1, .bl false, .int 5])) q2 (.tup [.int 1, .int 1])) t2 (.tup [.str "sum", .ref q2, .bl false, .int 9]))) (o := .tup [.int (0 - 1), .int 0]) nq3
    have e_q3 : upd (upd (upd (upd (upd H2 q1 (.tup [.int 2, .int 0])) t1 (.tup [.str "sum", .ref q1, .bl false, .int 5])) q2 (.tup [.int 1, .int 1])) t2 (.tup [.str "sum", .ref q2, .bl false, .int 9])) q3 (.tup [.int (0 - 1), .int 0]) q3 = some (.tup [.int (0 - 1), .int 0]) := upd_same
    have e_q1 := k_q3 _ _ e_q1
    have e_t1 := k_q3 _ _ e_t1
    have e_q2 := k_q3 _ _ e_q2
    have e_t2 := k_q3 _ _ e_t2
    have k_t3 := same_upd (H := (upd (upd (upd (upd (upd H2 q1 (.tup [.int 2, .int 0])) t1 (.tup [.str "sum", .ref q1, .bl false, .int 5])) q2 (.tup [.int 1, .int 1])) t2 (.tup [.str "sum", .ref q2, .bl false, .int 9])) q3 (.tup [.int (0 - 1), .int 0]))) (o := .tup [.str "sum", .ref q3, .bl false, .int 2]) nt3
    have e_t3 : upd (upd (upd (upd (upd (upd H2 q1 (.tup [.int 2, .int 0])) t1 (.tup [.str "sum", .ref q1, .bl false, .int 5])) q2 (.tup [.int 1, .int 1])) t2 (.tup [.str "sum", .ref q2, .bl false, .int 9])) q3 (.tup [.int (0 - 1), .int 0])) t3 (.tup [.str "sum", .ref q3, .bl false, .int 2]) t3 = some (.tup [.str "sum", .ref q3, .bl false, .int 2]) := upd_same
    have e_q1 := k_t3 _ _ e_q1
    have e_t1 := k_t3 _ _ e_t1
    have e_q2 := k_t3 _ _ e_q2
    have e_t2 := k_t3 _ _ e_t2
    have e_q3 := k_t3 _ _ e_q3
    have k_S := same_upd (H := (upd (upd (upd (upd (upd (upd H2 q1 (.tup [.int 2, .int 0])) t1 (.tup [.str "sum", .ref q1, .bl false, .int 5])) q2 (.tup [.int 1, .int 1])) t2 (.tup [.str "sum", .ref q2, .bl false, .int 9])) q3 (.tup [.int (0 - 1), .int 0])) t3 (.tup [.str "sum", .ref q3, .bl false, .int 2]))) (o := .tup [.ref t1, .ref t2, .ref t3]) nS
    have e_S : upd (upd (upd (upd (upd (upd (upd H2 q1 (.tup [.int 2, .int 0])) t1 (.tup [.str "sum", .ref q1, .bl false, .int 5])) q2 (.tup [.int 1, .int 1])) t2 (.tup [.str "sum", .ref q2, .bl false, .int 9])) q3 (.tup [.int (0 - 1), .int 0])) t3 (.tup [.str "sum", .ref q3, .bl false, .int 2])) S (.tup [.ref t1, .ref t2, .ref t3]) S = some (.tup [.ref t1, .ref t2, .ref t3]) := upd_same
    have e_q1 := k_S _ _ e_q1
    have e_t1 := k_S _ _ e_t1
    have e_q2 := k_S _ _ e_q2
    have e_t2 := k_S _ _ e_t2
    have e_q3 := k_S _ _ e_q3
    have e_t3 := k_S _ _ e_t3
    have k_u1 := same_upd (H := (upd (upd (upd (upd (upd (upd (upd H2 q1 (.tup [.int 2, .int 0])) t1 (.tup [.str "sum", .ref q1, .bl false, .int 5])) q2 (.tup [.int 1, .int 1])) t2 (.tup [.str "sum", .ref q2, .bl false, .int 9])) q3 (.tup [.int (0 - 1), .int 0])) t3 (.tup [.str "sum", .ref q3, .bl false, .int 2])) S (.tup [.ref t1, .ref t2, .ref t3]))) (o := .tup [.str "x", .int 0, .int 4]) nu1
    have e_u1 : upd (upd (upd (upd (upd (upd (upd (upd H2 q1 (.tup [.int 2, .int 0])) t1 (.tup [.str "sum", .ref q1, .bl false, .int 5])) q2 (.tup [.int 1, .int 1])) t2 (.tup [.str "sum", .ref q2, .bl false, .int 9])) q3 (.tup [.int (0 - 1), .int 0])) t3 (.tup [.str "sum", .ref q3, .bl false, .int 2])) S (.tup [.ref t1, .ref t2, .ref t3])) u1 (.tup [.str "x", .int 0, .int 4]) u1 = some (.tup [.str "x", .int 0, .int 4]) := upd_same
    have e_q1 := k_u1 _ _ e_q1
    have e_t1 := k_u1 _ _ e_t1
    have e_q2 := k_u1 _ _ e_q2
    have e_t2 := k_u1 _ _ e_t2
    have e_q3 := k_u1 _ _ e_q3
    have e_t3 := k_u1 _ _ e_t3
    have e_S := k_u1 _ _ e_S
    have k_u2 := same_upd (H := (upd (upd (upd (upd (upd (upd (upd (upd H2 q1 (.tup [.int 2, .int 0])) t1 (.tup [.str "sum", .ref q1, .bl false, .int 5])) q2 (.tup [.int 1, .int 1])) t2 (.tup [.str "sum", .ref q2, .bl false, .int 9])) q3 (.tup [.int (0 - 1), .int 0])) t3 (.tup [.str "sum", .ref q3, .bl false, .int 2])) S (.tup [.ref t1, .ref t2, .ref t3])) u1 (.tup [.str "x", .int 0, .int 4]))) (o := .tup [.str "y", .int 0, .int 6]) nu2
    have e_u2 : upd (upd (upd (upd (upd (upd (upd (upd (upd H2 q1 (.tup [.int 2, .int 0])) t1 (.tup [.str "sum", .ref q1, .bl false, .int 5])) q2 (.tup [.int 1, .int 1])) t2 (.tup [.str "sum", .ref q2, .bl false, .int 9])) q3 (.tup [.int (0 - 1), .int 0])) t3 (.tup [.str "sum", .ref q3, .bl false, .int 2])) S (.tup [.ref t1, .ref t2, .ref t3])) u1 (.tup [.str "x", .int 0, .int 4])) u2 (.tup [.str "y", .int 0, .int 6]) u2 = some (.tup [.str "y", .int 0, .int 6]) := upd_same
    have e_q1 := k_u2 _ _ e_q1
    have e_t1 := k_u2 _ _ e_t1
    have e_q2 := k_u2 _ _ e_q2
    have e_t2 := k_u2 _ _ e_t2
    have e_q3 := k_u2 _ _ e_q3
    have e_t3 := k_u2 _ _ e_t3
    have e_S := k_u2 _ _ e_S
    have e_u1 := k_u2 _ _ e_u1
    have k_U := same_upd (H := (upd (upd (upd (upd (upd (upd (upd (upd (upd H2 q1 (.tup [.int 2, .int 0])) t1 (.tup [.str "sum", .ref q1, .bl false, .int 5])) q2 (.tup [.int 1, .int 1])) t2 (.tup [.str "sum", .ref q2, .bl false, .int 9])) q3 (.tup [.int (0 - 1), .int 0])) t3 (.tup [.str "sum", .ref q3, .bl false, .int 2])) S (.tup [.ref t1, .ref t2, .ref t3])) u1 (.tup [.str "x", .int 0, .int 4])) u2 (.tup [.str "y", .int 0, .int 6]))) (o := .tup [.ref u1, .ref u2]) nU
    have e_U : upd (upd (upd (upd (upd (upd (upd (upd (upd (upd H2 q1 (.tup [.int 2, .int 0])) t1 (.tup [.str "sum", .ref q1, .bl false, .int 5])) q2 (.tup [.int 1, .int 1])) t2 (.tup [.str "sum", .ref q2, .bl false, .int 9])) q3 (.tup [.int (0 - 1), .int 0])) t3 (.tup [.str "sum", .ref q3, .bl false, .int 2])) S (.tup [.ref t1, .ref t2, .ref t3])) u1 (.tup [.str "x", .int 0, .int 4])) u2 (.tup [.str "y", .int 0, .int 6])) U (.tup [.ref u1, .ref u2]) U = some (.tup [.ref u1, .ref u2]) := upd_same
    have e_q1 := k_U _ _ e_q1
    have e_t1 := k_U _ _ e_t1
    have e_q2 := k_U _ _ e_q2
    have e_t2 := k_U _ _ e_t2
    have e_q3 := k_U _ _ e_q3
    have e_t3 := k_U _ _ e_t3
    have e_S := k_U _ _ e_S
    have e_u1 := k_U _ _ e_u1
    have e_u2 := k_U _ _ e_u2
    have k_wq := same_upd (H := (upd (upd (upd (upd (upd (upd (upd (upd (upd (upd H2 q1 (.tup [.int 2, .int 0])) t1 (.tup [.str "sum", .ref q1, .bl false, .int 5])) q2 (.tup [.int 1, .int 1])) t2 (.tup [.str "sum", .ref q2, .bl false, .int 9])) q3 (.tup [.int (0 - 1), .int 0])) t3 (.tup [.str "sum", .ref q3, .bl false, .int 2])) S (.tup [.ref t1, .ref t2, .ref t3])) u1 (.tup [.str "x", .int 0, .int 4])) u2 (.tup [.str "y", .int 0, .int 6])) U (.tup [.ref u1, .ref u2]))) (o := .tup [.int 1, .int 0]) nwq
    have e_wq : upd (upd (upd (upd (upd (upd (upd (upd (upd (upd (upd H2 q1 (.tup [.int 2, .int 0])) t1 (.tup [.str "sum", .ref q1, .bl false, .int 5])) q2 (.tup [.int 1, .int 1])) t2 (.tup [.str "sum", .ref q2, .bl false, .int 9])) q3 (.tup [.int (0 - 1), .int 0])) t3 (.tup [.str "sum", .ref q3, .bl false, .int 2])) S (.tup [.ref t1, .ref t2, .ref t3])) u1 (.tup [.str "x", .int 0, .int 4])) u2 (.tup [.str "y", .int 0, .int 6])) U (.tup [.ref u1, .ref u2])) wq (.tup [.int 1, .int 0]) wq = some (.tup [.int 1, .int 0]) := upd_same
    have e_q1 := k_wq _ _ e_q1
    have e_t1 := k_wq _ _ e_t1
    have e_q2 := k_wq _ _ e_q2
    have e_t2 := k_wq _ _ e_t2
    have e_q3 := k_wq _ _ e_q3
    have e_t3 := k_wq _ _ e_t3
    have e_S := k_wq _ _ e_S
    have e_u1 := k_wq _ _ e_u1
    have e_u2 := k_wq _ _ e_u2
    have e_U := k_wq _ _ e_U
    have k_w1 := same_upd (H := (upd (upd (upd (upd (upd (upd (upd (upd (upd (upd (upd H2 q1 (.tup [.int 2, .int 0])) t1 (.tup [.str "sum", .ref q1, .bl false, .int 5])) q2 (.tup [.int 1, .int 1])) t2 (.tup [.str "sum", .ref q2, .bl false, .int 9])) q3 (.tup [.int (0 - 1), .int 0])) t3 (.tup [.str "sum", .ref q3, .bl false, .int 2])) S (.tup [.ref t1, .ref t2, .ref t3])) u1 (.tup [.str "x", .int 0, .int 4])) u2 (.tup [.str "y", .int 0, .int 6])) U (.tup [.ref u1, .ref u2])) wq (.tup [.int 1, .int 0]))) (o := .tup [.str "sum", .ref wq, .bl false, .int 0]) nw1
    have e_w1 : upd (upd (upd (upd (upd (upd (upd (upd (upd (upd (upd (upd H2 q1 (.tup [.int 2, .int 0])) t1 (.tup [.str "sum", .ref q1, .bl false, .int 5])) q2 (.tup [.int 1, .int 1])) t2 (.tup [.str "sum", .ref q2, .bl false, .int 9])) q3 (.tup [.int (0 - 1), .int 0])) t3 (.tup [.str "sum", .ref q3, .bl false, .int 2])) S (.tup [.ref t1, .ref t2, .ref t3])) u1 (.tup [.str "x", .int 0, .int 4])) u2 (.tup [.str "y", .int 0, .int 6])) U (.tup [.ref u1, .ref u2])) wq (.tup [.int 1, .int 0])) w1 (.tup [.str "sum", .ref wq, .bl false, .int 0]) w1 = some (.tup [.str "sum", .ref wq, .bl false, .int 0]) := upd_same
    have e_q1 := k_w1 _ _ e_q1
    have e_t1 := k_w1 _ _ e_t1
    have e_q2 := k_w1 _ _ e_q2
    have e_t2 := k_w1 _ _ e_t2
    have e_q3 := k_w1 _ _ e_q3
    have e_t3 := k_w1 _ _ e_t3
    have e_S := k_w1 _ _ e_S
    have e_u1 := k_w1 _ _ e_u1
    have e_u2 := k_w1 _ _ e_u2
    have e_U := k_w1 _ _ e_U
    have e_wq := k_w1 _ _ e_wq
    have k_we := same_upd (H := (upd (upd (upd (upd (upd (upd (upd (upd (upd (upd (upd (upd H2 q1 (.tup [.int 2, .int 0])) t1 (.tup [.str "sum", .ref q1, .bl false, .int 5])) q2 (.tup [.int 1, .int 1])) t2 (.tup [.str "sum", .ref q2, .bl false, .int 9])) q3 (.tup [.int (0 - 1), .int 0])) t3 (.tup [.str "sum", .ref q3, .bl false, .int 2])) S (.tup [.ref t1, .ref t2, .ref t3])) u1 (.tup [.str "x", .int 0, .int 4])) u2 (.tup [.str "y", .int 0, .int 6])) U (.tup [.ref u1, .ref u2])) wq (.tup [.int 1, .int 0])) w1 (.tup [.str "sum", .ref wq, .bl false, .int 0]))) (o := .tup [.str "either", .ref S]) nwe
    have e_we : upd (upd (upd (upd (upd (upd (upd (upd (upd (upd (upd (upd (upd H2 q1 (.tup [.int 2, .int 0])) t1 (.tup [.str "sum", .ref q1, .bl false, .int 5])) q2 (.tup [.int 1, .int 1])) t2 (.tup [.str "sum", .ref q2, .bl false, .int 9])) q3 (.tup [.int (0 - 1), .int 0])) t3 (.tup [.str "sum", .ref q3, .bl false, .int 2])) S (.tup [.ref t1, .ref t2, .ref t3])) u1 (.tup [.str "x", .int 0, .int 4])) u2 (.tup [.str "y", .int 0, .int 6])) U (.tup [.ref u1, .ref u2])) wq (.tup [.int 1, .int 0])) w1 (.tup [.str "sum", .ref wq, .bl false, .int 0])) we (.tup [.str "either", .ref S]) we = some (.tup [.str "either", .ref S]) := upd_same
    have e_q1 := k_we _ _ e_q1
    have e_t1 := k_we _ _ e_t1
    have e_q2 := k_we _ _ e_q2
    have e_t2 := k_we _ _ e_t2
    have e_q3 := k_we _ _ e_q3
    have e_t3 := k_we _ _ e_t3
    have e_S := k_we _ _ e_S
    have e_u1 := k_we _ _ e_u1
    have e_u2 := k_we _ _ e_u2
    have e_U := k_we _ _ e_U
    have e_wq := k_we _ _ e_wq
    have e_w1 := k_we _ _ e_w1
    have k_W := same_upd (H := (upd (upd (upd (upd (upd (upd (upd (upd (upd (upd (upd (upd (upd H2 q1 (.tup [.int 2, .int 0])) t1 (.tup [.str "sum", .ref q1, .bl false, .int 5])) q2 (.tup [.int 1, .int 1])) t2 (.tup [.str "sum", .ref q2, .bl false, .int 9])) q3 (.tup [.int (0 - 1), .int 0])) t3 (.tup [.str "sum", .ref q3, .bl false, .int 2])) S (.tup [.ref t1, .ref t2, .ref t3])) u1 (.tup [.str "x", .int 0, .int 4])) u2 (.tup [.str "y", .int 0, .int 6])) U (.tup [.ref u1, .ref u2])) wq (.tup [.int 1, .int 0])) w1 (.tup [.str "sum", .ref wq, .bl false, .int 0])) we (.tup [.str "either", .ref S]))) (o := .tup [.ref w1, .ref we]) nW
    have e_W : upd (upd (upd (upd (upd (upd (upd (upd (upd (upd (upd (upd (upd (upd H2 q1 (.tup [.int 2, .int 0])) t1 (.tup [.str "sum", .ref q1, .bl false, .int 5])) q2 (.tup [.int 1, .int 1])) t2 (.tup [.str "sum", .ref q2, .bl false, .int 9])) q3 (.tup [.int (0 - 1), .int 0])) t3 (.tup [.str "sum", .ref q3, .bl false, .int 2])) S (.tup [.ref t1, .ref t2, .ref t3])) u1 (.tup [.str "x", .int 0, .int 4])) u2 (.tup [.str "y", .int 0, .int 6])) U (.tup [.ref u1, .ref u2])) wq (.tup [.int 1, .int 0])) w1 (.tup [.str "sum", .ref wq, .bl false, .int 0])) we (.tup [.str "either", .ref S])) W (.tup [.ref w1, .ref we]) W = some (.tup [.ref w1, .ref we]) := upd_same
    have e_q1 := k_W _ _ e_q1
    have e_t1 := k_W _ _ e_t1
    have e_q2 := k_W _ _ e_q2
    have e_t2 := k_W _ _ e_t2
    have e_q3 := k_W _ _ e_q3
    have e_t3 := k_W _ _ e_t3
    have e_S := k_W _ _ e_S
    have e_u1 := k_W _ _ e_u1
    have e_u2 := k_W _ _ e_u2
    have e_U := k_W _ _ e_U
    have e_wq := k_W _ _ e_wq
    have e_w1 := k_W _ _ e_w1
    have e_we := k_W _ _ e_we
    have k_g := same_upd (H := (upd (upd (upd (upd (upd (upd (upd (upd (upd (upd (upd (upd (upd (upd H2 q1 (.tup [.int 2, .int 0])) t1 (.tup [.str "sum", .ref q1, .bl false, .int 5])) q2 (.tup [.int 1, .int 1])) t2 (.tup [.str "sum", .ref q2, .bl false, .int 9])) q3 (.tup [.int (0 - 1), .int 0])) t3 (.tup [.str "sum", .ref q3, .bl false, .int 2])) S (.tup [.ref t1, .ref t2, .ref t3])) u1 (.tup [.str "x", .int 0, .int 4])) u2 (.tup [.str "y", .int 0, .int 6])) U (.tup [.ref u1, .ref u2])) wq (.tup [.int 1, .int 0])) w1 (.tup [.str "sum", .ref wq, .bl false, .int 0])) we (.tup [.str "either", .ref S])) W (.tup [.ref w1, .ref we]))) (o := .tup [.int 1, .int 1]) ng
    have e_g : upd (upd (upd (upd (upd (upd (upd (upd (upd (upd (upd (upd (upd (upd (upd H2 q1 (.tup [.int 2, .int 0])) t1 (.tup [.str "sum", .ref q1, .bl false, .int 5])) q2 (.tup [.int 1, .int 1])) t2 (.tup [.str "sum", .ref q2, .bl false, .int 9])) q3 (.tup [.int (0 - 1), .int 0])) t3 (.tup [.str "sum", .ref q3, .bl false, .int 2])) S (.tup [.ref t1, .ref t2, .ref t3])) u1 (.tup [.str "x", .int 0, .int 4])) u2 (.tup [.str "y", .int 0, .int 6])) U (.tup [.ref u1, .ref u2])) wq (.tup [.int 1, .int 0])) w1 (.tup [.str "sum", .ref wq, .bl false, .int 0])) we (.tup [.str "either", .ref S])) W (.tup [.ref w1, .ref we])) g (.tup [.int 1, .int 1]) g = some (.tup [.int 1, .int 1]) := upd_same
    have e_q1 := k_g _ _ e_q1
    have e_t1 := k_g _ _ e_t1
    have e_q2 := k_g _ _ e_q2
    have e_t2 := k_g _ _ e_t2
    have e_q3 := k_g _ _ e_q3
    have e_t3 := k_g _ _ e_t3
    have e_S := k_g _ _ e_S
    have e_u1 := k_g _ _ e_u1
    have e_u2 := k_g _ _ e_u2
    have e_U := k_g _ _ e_U
    have e_wq := k_g _ _ e_wq
    have e_w1 := k_g _ _ e_w1
    have e_we := k_g _ _ e_we
    have e_W := k_g _ _ e_W
    refine fun xn dn nx ndx nxd => ?_
    have nx : (upd (upd (upd (upd (upd (upd (upd (upd (upd (upd (upd (upd (upd (upd (upd H2 q1 (.tup [.int 2, .int 0])) t1 (.tup [.str "sum", .ref q1, .bl false, .int 5])) q2 (.tup [.int 1, .int 1])) t2 (.tup [.str "sum", .ref q2, .bl false, .int 9])) q3 (.tup [.int (0 - 1), .int 0])) t3 (.tup [.str "sum", .ref q3, .bl false, .int 2])) S (.tup [.ref t1, .ref t2, .ref t3])) u1 (.tup [.str "x", .int 0, .int 4])) u2 (.tup [.str "y", .int 0, .int 6])) U (.tup [.ref u1, .ref u2])) wq (.tup [.int 1, .int 0])) w1 (.tup [.str "sum", .ref wq, .bl false, .int 0])) we (.tup [.str "either", .ref S])) W (.tup [.ref w1, .ref we])) g (.tup [.int 1, .int 1])) xn = none := nx
    have ndx : (upd (upd (upd (upd (upd (upd (upd (upd (upd (upd (upd (upd (upd (upd (upd H2 q1 (.tup [.int 2, .int 0])) t1 (.tup [.str "sum", .ref q1, .bl false, .int 5])) q2 (.tup [.int 1, .int 1])) t2 (.tup [.str "sum", .ref q2, .bl false, .int 9])) q3 (.tup [.int (0 - 1), .int 0])) t3 (.tup [.str "sum", .ref q3, .bl false, .int 2])) S (.tup [.ref t1, .ref t2, .ref t3])) u1 (.tup [.str "x", .int 0, .int 4])) u2 (.tup [.str "y", .int 0, .int 6])) U (.tup [.ref u1, .ref u2])) wq (.tup [.int 1, .int 0])) w1 (.tup [.str "sum", .ref wq, .bl false, .int 0])) we (.tup [.str "either", .ref S])) W (.tup [.ref w1, .ref we])) g (.tup [.int 1, .int 1])) dn = none := ndx
    show spTask C _ (upd (upd (upd (upd (upd (upd (upd (upd (upd (upd (upd (upd (upd (upd (upd (upd (upd H2 q1 (.tup [.int 2, .int 0])) t1 (.tup [.str "sum", .ref q1, .bl false, .int 5])) q2 (.tup [.int 1, .int 1])) t2 (.tup [.str "sum", .ref q2, .bl false, .int 9])) q3 (.tup [.int (0 - 1), .int 0])) t3 (.tup [.str "sum", .ref q3, .bl false, .int 2])) S (.tup [.ref t1, .ref t2, .ref t3])) u1 (.tup [.str "x", .int 0, .int 4])) u2 (.tup [.str "y", .int 0, .int 6])) U (.tup [.ref u1, .ref u2])) wq (.tup [.int 1, .int 0])) w1 (.tup [.str "sum", .ref wq, .bl false, .int 0])) we (.tup [.str "either", .ref S])) W (.tup [.ref w1, .ref we])) g (.tup [.int 1, .int 1])) dn (.own xn)) xn (.ins C dn [])) _ _
    generalize (upd (upd (upd (upd (upd (upd (upd (upd (upd (upd (upd (upd (upd (upd (upd H2 q1 (.tup [.int 2, .int 0])) t1 (.tup [.str "sum", .ref q1, .bl false, .int 5])) q2 (.tup [.int 1, .int 1])) t2 (.tup [.str "sum", .ref q2, .bl false, .int 9])) q3 (.tup [.int (0 - 1), .int 0])) t3 (.tup [.str "sum", .ref q3, .bl false, .int 2])) S (.tup [.ref t1, .ref t2, .ref t3])) u1 (.tup [.str "x", .int 0, .int 4])) u2 (.tup [.str "y", .int 0, .int 6])) U (.tup [.ref u1, .ref u2])) wq (.tup [.int 1, .int 0])) w1 (.tup [.str "sum", .ref wq, .bl false, .int 0])) we (.tup [.str "either", .ref S])) W (.tup [.ref w1, .ref we])) g (.tup [.int 1, .int 1])) = Hg at *
    have y6 := same_upd (o := .own xn) ndx
    have nx6 : upd Hg dn (.own xn) xn = none := by rw [upd_ne nxd.symm]; exact nx
    have y7 := y6.trans (same_upd (o := .ins C dn []) nx6)
    have z7 : upd (upd Hg dn (.own xn)) xn (.ins C dn []) xn = some (.ins C dn []) := upd_same
    generalize upd (upd Hg dn (.own xn)) xn (.ins C dn []) = HK at *
    have rva : RV Hg (.ref t1) rA := ⟨t1, q1, rfl, e_t1, e_q1⟩
    have rsv : RsV Hg (.ref S) rs3 := ⟨S, _, rfl, e_S, .cons rva (.cons ⟨t2, q2, rfl, e_t2, e_q2⟩ (.cons ⟨t3, q3, rfl, e_t3, e_q3⟩ .nil))⟩
    have wvg : WVs Hg [.ref w1, .ref we] wl3 := .cons (show WV Hg (.ref w1) (.sum _) from ⟨w1, wq, rfl, e_w1, e_wq⟩) (.cons (show WV Hg (.ref we) (.either rs3) from ⟨we, .ref S, rfl, e_we, rsv⟩) .nil)
    have uvg : UVs Hg [.ref u1, .ref u2] ul3 := .cons ⟨u1, rfl, e_u1⟩ (.cons ⟨u2, rfl, e_u2⟩ .nil)
    refine ⟨xn, dn, U, W, g, _, _, ul3, wl3, [1, 1], rfl, z7, y7 _ _ e_U, uvg.same y7, y7 _ _ e_W, wvg.same y7, y7 _ _ e_g, uok3, wok3, rfl, fun HL sL => ?_⟩
    have hx : upd HL xn (.ins C dn [("unknowns", .ref U), ("wishes", .ref W), ("goal", .ref g)]) xn = some (.ins C dn [("unknowns", .ref U), ("wishes", .ref W), ("goal", .ref g)]) := upd_same
    have sM : Same Hg (upd HL xn (.ins C dn [("unknowns", .ref U), ("wishes", .ref W), ("goal", .ref g)])) := same_at (y7.trans sL) nx
    refine ⟨rfl, ?_⟩
    show gName 6 (.ref xn) _ (upd HL xn (.ins C dn [("unknowns", .ref U), ("wishes", .ref W), ("goal", .ref g)])) _
    generalize upd HL xn (.ins C dn [("unknowns", .ref U), ("wishes", .ref W), ("goal", .ref g)]) = HM at *
    have tv : TaskV C HM (.ref xn) ul3 wl3 [1, 1] := ⟨xn, dn, U, W, g, _, _, rfl, hx, sM _ _ e_U, uvg.same sM, sM _ _ e_W, wvg.same sM, sM _ _ e_g⟩
    have eSM := sM _ _ e_S
    have rvM := rva.same sM
    clear e_q1 e_t1 e_q2 e_t2 e_q3 e_t3 e_S e_u1 e_u2 e_U e_wq e_w1 e_we e_W e_g k_q1 k_t1 k_q2 k_t2 k_q3 k_t3 k_S k_u1 k_u2 k_U k_wq k_w1 k_we k_W k_g rva rsv wvg uvg y6 y7 z7 nx6 hx
    -- the open sums
    refine ⟨_, rfl, len2, fun b1 nb1 => ⟨len2, fun b2 nb2 => ⟨len2, fun bb nbb => ?_⟩⟩⟩
    have kA := bxV (f := (0, 4)) (g := (0, 6)) nb1 nb2 nbb
    refine ⟨.ref xn, .int 1, .ref bb, ul3, wl3, [1, 1], bxA, rfl, same_tv tv kA.1, by decide, .inl ⟨1, rs3, rfl, rfl, kA.2, ok3, fun HN v1 sN lv1 => ?_⟩⟩
    have sMN := kA.1.trans sN
    refine ⟨len2, fun t4 nt4 => ?_⟩
    have k4 := same_upd (o := .tup [.int 0, .int 1]) nt4
    refine ⟨_, _, dpI (lv1.same k4), dpI (a := [0, 1]) ⟨t4, rfl, upd_same⟩, shpI _, shpI _, ?_⟩
    have sMO := sMN.trans k4
    generalize upd HN t4 (.tup [.int 0, .int 1]) = HO at *
    rw [opA, eqvI, decide_eq_true rfl]
    refine ⟨false, rfl, iteF ?_⟩
    -- the least box
    refine ⟨_, rfl, len2, fun b3 nb3 => ⟨len2, fun b4 nb4 => ⟨len2, fun bc nbc => ?_⟩⟩⟩
    have kB := bxV (f := (0, 4)) (g := (0, 6)) nb3 nb4 nbc
    refine ⟨.ref xn, .int 1, .ref bc, ul3, wl3, [1, 1], bxA, rfl, same_tv tv (sMO.trans kB.1), by decide, .inl ⟨1, rs3, rfl, rfl, kB.2, by decide, bxAok, ok3, fun z => absurd ⟨_, eiA (a := 3) (b := 0) (by decide) (by decide) (by decide) (by decide)⟩ z, fun HP v2 B sP lst sv2 => ?_⟩⟩
    cases lst.uniq lstA
    have sMP := (sMO.trans kB.1).trans sP
    refine ⟨len2, fun b5 nb5 => ⟨len2, fun b6 nb6 => ⟨len2, fun bd nbd => ?_⟩⟩⟩
    have kC := bxV (f := (3, 4)) (g := (0, 6)) nb5 nb6 nbd
    refine ⟨_, _, dpBox (sv2.same kC.1), dpBox kC.2, shA, shA, ?_⟩
    rw [show PyData.eqv (dBox lsA) (dBox [(3, 4), (0, 6)]) = true from SeqAt.eqv_refl _ (SeqAt.canLay_of_shaped shA)]
    refine ⟨false, rfl, iteF ?_⟩
    have sMQ := sMP.trans kC.1
    -- the sum that is left
    refine ⟨_, rfl, len2, fun b7 nb7 => ⟨len2, fun b8 nb8 => ⟨len2, fun be nbe => ?_⟩⟩⟩
    have kD := bxV (f := (0, 4)) (g := (0, 4)) nb7 nb8 nbe
    refine ⟨.ref xn, .int 1, .ref be, ul3, wl3, [1, 1], bxB, rfl, same_tv tv (sMQ.trans kD.1), by decide, .inl ⟨1, rs3, rfl, rfl, kD.2, ok3, fun HR v3 sR lf => ?_⟩⟩
    rw [dueB] at lf
    have lf : RV HR v3 rA := lf
    have sMR := (sMQ.trans kD.1).trans sR
    refine ⟨_, rfl, S, _, 0, .ref t1, rfl, rfl, sq_tup (sMR _ _ eSM), rfl, _, _, dpRow lf, dpRow (rvM.same sMR), shRA, shRA, ?_⟩
    rw [show PyData.eqv (dRow rA) (dRow rA) = true from SeqAt.eqv_refl _ (SeqAt.canLay_of_shaped shRA)]
    refine ⟨true, rfl, iteT ?_⟩
    -- no box
    refine ⟨_, rfl, len2, fun b9 nb9 => ⟨len2, fun b10 nb10 => ⟨len2, fun bf nbf => ?_⟩⟩⟩
    have kE := bxV (f := (0, 2)) (g := (0, 6)) nb9 nb10 nbf
    refine ⟨.ref xn, .int 1, .ref bf, ul3, wl3, [1, 1], bxC, rfl, same_tv tv (sMR.trans kE.1), by decide, .inl ⟨1, rs3, rfl, rfl, kE.2, by decide, bxCok, ok3, fun _ HS sS => ?_, fun HS v B sS lst sv => absurd ((lst_ok lst bxCs).ne (by decide)) noC⟩⟩
    refine ⟨rfl, ?_⟩
    rw [decide_eq_true rfl]
    exact fin _
end
end M66

namespace M66
open PySem PySem.W PySem.Calls PyProof.Rows Own Gd
open L2 (FnScope defArgs defBody defScope FunD Fun Binds OexC XfC xfB xfB_ok FnOk CX0 Sp Cls NoAttr Mk)
section
open PySem.Spec L2 SX
abbrev s_iR : Stmt := inS 3 0
theorem sc_iR : FnScope ["self", "word"] ["self", "word"] (defScope s_iR) := ⟨rfl, rfl, rfl, by decide +kernel, rfl, by decide +kernel, by decide +kernel⟩
theorem ok_iR {P : Program} {w : World} {K : PySem.W.Frag} {mg : PySem.Str → Option Value} {base : Heap} {f : Addr} {fd : FuncData} (F : Fun K "__init__" "Refused.__init__" s_iR f fd) : FnOk P w K mg base CX0 1 f fd ["self", "word"] (spInit K) := by
  refine F.ok sc_iR (fun vs H Q E h => ?_) (fun cdv A outer s H vs Q E hr h => ?_)
  · obtain ⟨a, C, y, rfl, _⟩ := h
    rfl
  · obtain ⟨a, C, y, rfl, T, no, e, q⟩ := h
    refine ⟨_, pss_one (ps_ost (pv 0) (pv 1)), ?_⟩
    exact ⟨_, rfl, _, rfl, a, C, rfl, T, no, .inl ⟨e, fun d n ne => q d n ne⟩⟩
end
def d_is_whole : He.DefD := ⟨("is_whole", none), "is_whole", "is_whole", defArgs s_is_whole, defBody s_is_whole, defScope s_is_whole, [], []⟩
def d_is_integers : He.DefD := ⟨("is_integers", none), "is_integers", "is_integers", defArgs s_is_integers, defBody s_is_integers, defScope s_is_integers, [], []⟩
def d_is_sum : He.DefD := ⟨("_is_sum", none), "_is_sum", "_is_sum", defArgs s_is_sum, defBody s_is_sum, defScope s_is_sum, [], []⟩
def d_is_either : He.DefD := ⟨("_is_either", none), "_is_either", "_is_either", defArgs s_is_either, defBody s_is_either, defScope s_is_either, [], []⟩
def d_is_wish : He.DefD := ⟨("is_wish", none), "is_wish", "is_wish", defArgs s_is_wish, defBody s_is_wish, defScope s_is_wish, [], []⟩
def d_is_name : He.DefD := ⟨("is_name", none), "is_name", "is_name", defArgs s_is_name, defBody s_is_name, defScope s_is_name, [], []⟩
def d_is_pair : He.DefD := ⟨("is_pair", none), "is_pair", "is_pair", defArgs s_is_pair, defBody s_is_pair, defScope s_is_pair, [], []⟩
def d_is_unknown : He.DefD := ⟨("_is_unknown", none), "_is_unknown", "_is_unknown", defArgs s_is_unknown, defBody s_is_unknown, defScope s_is_unknown, [], []⟩
def d_check_unknowns : He.DefD := ⟨("_check_unknowns", none), "_check_unknowns", "_check_unknowns", defArgs s_check_unknowns, defBody s_check_unknowns, defScope s_check_unknowns, [], []⟩
def d_check_wishes : He.DefD := ⟨("_check_wishes", none), "_check_wishes", "_check_wishes", defArgs s_check_wishes, defBody s_check_wishes, defScope s_check_wishes, [], []⟩
def d_check_goal : He.DefD := ⟨("_check_goal", none), "_check_goal", "_check_goal", defArgs s_check_goal, defBody s_check_goal, defScope s_check_goal, [], []⟩
def d_Ldraw : He.DefD := ⟨("_law_draw", none), "_law_draw", "_law_draw", defArgs s_Ldraw, defBody s_Ldraw, defScope s_Ldraw, [], []⟩
def d_Lheap : He.DefD := ⟨("_law_heap", none), "_law_heap", "_law_heap", defArgs s_Lheap, defBody s_Lheap, defScope s_Lheap, [], []⟩
def d_Lpick : He.DefD := ⟨("_law_pick", none), "_law_pick", "_law_pick", defArgs s_Lpick, defBody s_Lpick, defScope s_Lpick, [], []⟩
def d_top_of : He.DefD := ⟨("top_of", none), "top_of", "top_of", defArgs s_top_of, defBody s_top_of, defScope s_top_of, [], []⟩
def d_is_number : He.DefD := ⟨("is_number", none), "is_number", "is_number", defArgs s_is_number, defBody s_is_number, defScope s_is_number, [], []⟩
def d_checked_wish : He.DefD := ⟨("checked_wish", none), "checked_wish", "checked_wish", defArgs s_checked_wish, defBody s_checked_wish, defScope s_checked_wish, [], []⟩
def d_sums_of : He.DefD := ⟨("_sums_of", none), "_sums_of", "_sums_of", defArgs s_sums_of, defBody s_sums_of, defScope s_sums_of, [], []⟩
def d_open_sums : He.DefD := ⟨("open_sums", none), "open_sums", "open_sums", defArgs s_open_sums, defBody s_open_sums, defScope s_open_sums, [], []⟩
def d_either_left : He.DefD := ⟨("either_left", none), "either_left", "either_left", defArgs s_either_left, defBody s_either_left, defScope s_either_left, [], []⟩
def d_either_point : He.DefD := ⟨("either_point", none), "either_point", "either_point", defArgs s_either_point, defBody s_either_point, defScope s_either_point, [], []⟩
def d_sure_sum : He.DefD := ⟨("sure_sum", none), "sure_sum", "sure_sum", defArgs s_sure_sum, defBody s_sure_sum, defScope s_sure_sum, [], []⟩
def d_sum_box : He.DefD := ⟨("_sum_box", none), "_sum_box", "_sum_box", defArgs s_sum_box, defBody s_sum_box, defScope s_sum_box, [], []⟩
def d_either_box : He.DefD := ⟨("either_box", none), "either_box", "either_box", defArgs s_either_box, defBody s_either_box, defScope s_either_box, [], []⟩
def d_either_draws : He.DefD := ⟨("either_draws", none), "either_draws", "either_draws", defArgs s_either_draws, defBody s_either_draws, defScope s_either_draws, [], []⟩
def d_Lpoints : He.DefD := ⟨("_law_points", none), "_law_points", "_law_points", defArgs s_Lpoints, defBody s_Lpoints, defScope s_Lpoints, [], []⟩
def d_Ltotal : He.DefD := ⟨("_law_total", none), "_law_total", "_law_total", defArgs s_Ltotal, defBody s_Ltotal, defScope s_Ltotal, [], []⟩
def d_Ltop : He.DefD := ⟨("_law_top", none), "_law_top", "_law_top", defArgs s_Ltop, defBody s_Ltop, defScope s_Ltop, [], []⟩
def d_Lkept : He.DefD := ⟨("_law_kept", none), "_law_kept", "_law_kept", defArgs s_Lkept, defBody s_Lkept, defScope s_Lkept, [], []⟩
def d_Lno_top : He.DefD := ⟨("_law_no_top", none), "_law_no_top", "_law_no_top", defArgs s_Lno_top, defBody s_Lno_top, defScope s_Lno_top, [], []⟩
def d_Lamounts : He.DefD := ⟨("_law_amounts", none), "_law_amounts", "_law_amounts", defArgs s_Lamounts, defBody s_Lamounts, defScope s_Lamounts, [], []⟩
def d_Lsums : He.DefD := ⟨("_law_sums", none), "_law_sums", "_law_sums", defArgs s_Lsums, defBody s_Lsums, defScope s_Lsums, [], []⟩
def d_Lworld : He.DefD := ⟨("_law_world", none), "_law_world", "_law_world", defArgs s_Lworld, defBody s_Lworld, defScope s_Lworld, [], []⟩
def d_Ldue_draws : He.DefD := ⟨("_law_due_draws", none), "_law_due_draws", "_law_due_draws", defArgs s_Ldue_draws, defBody s_Ldue_draws, defScope s_Ldue_draws, [], []⟩
def d_Lpoint_right : He.DefD := ⟨("_law_point_right", none), "_law_point_right", "_law_point_right", defArgs s_Lpoint_right, defBody s_Lpoint_right, defScope s_Lpoint_right, [], []⟩
def d_Lleft_right : He.DefD := ⟨("_law_left_right", none), "_law_left_right", "_law_left_right", defArgs s_Lleft_right, defBody s_Lleft_right, defScope s_Lleft_right, [], []⟩
def d_Ldrawn_right : He.DefD := ⟨("_law_drawn_right", none), "_law_drawn_right", "_law_drawn_right", defArgs s_Ldrawn_right, defBody s_Ldrawn_right, defScope s_Ldrawn_right, [], []⟩
def d_Lrefused : He.DefD := ⟨("_law_refused", none), "_law_refused", "_law_refused", defArgs s_Lrefused, defBody s_Lrefused, defScope s_Lrefused, [], []⟩
def d_Lsmall_right : He.DefD := ⟨("_law_small_right", none), "_law_small_right", "_law_small_right", defArgs s_Lsmall_right, defBody s_Lsmall_right, defScope s_Lsmall_right, [], []⟩
def d_Lgreat_right : He.DefD := ⟨("_law_great_right", none), "_law_great_right", "_law_great_right", defArgs s_Lgreat_right, defBody s_Lgreat_right, defScope s_Lgreat_right, [], []⟩
def d_Lword : He.DefD := ⟨("_law_word", none), "_law_word", "_law_word", defArgs s_Lword, defBody s_Lword, defScope s_Lword, [], []⟩
def d_law : He.DefD := ⟨("law", none), "law", "law", defArgs s_law, defBody s_law, defScope s_law, [], []⟩
def d_iR : He.DefD := ⟨("Refused", some "__init__"), "__init__", "Refused.__init__", defArgs s_iR, defBody s_iR, defScope s_iR, [], []⟩
def d_Ti : He.DefD := ⟨("Task", some "__init__"), "__init__", "Task.__init__", defArgs s_Task_init, defBody s_Task_init, defScope s_Task_init, [], []⟩
def fnL0 : List He.DefD := [d_is_whole, d_is_integers, d_is_sum, d_is_either, d_is_wish, d_is_name, d_is_pair, d_is_unknown, d_check_unknowns, d_check_wishes]
def fnL1 : List He.DefD := [d_check_goal, d_Ldraw, d_Lheap, d_Lpick, d_top_of, d_is_number, d_checked_wish, d_sums_of, d_open_sums, d_either_left]
def fnL2 : List He.DefD := [d_either_point, d_sure_sum, d_sum_box, d_either_box, d_either_draws, d_Lpoints, d_Ltotal, d_Ltop, d_Lkept, d_Lno_top]
def fnL3 : List He.DefD := [d_Lamounts, d_Lsums, d_Lworld, d_Ldue_draws, d_Lpoint_right, d_Lleft_right, d_Ldrawn_right, d_Lrefused, d_Lsmall_right, d_Lgreat_right]
def fnL4 : List He.DefD := [d_Lword, d_law, d_iR, d_Ti]
def fnL : List He.DefD := fnL0 ++ fnL1 ++ fnL2 ++ fnL3 ++ fnL4
def faL0 : List He.Fa := [.glo "is_whole", .glo "is_integers", .glo "_is_sum", .glo "_is_either", .glo "is_wish", .glo "is_name", .glo "is_pair", .glo "_is_unknown", .glo "_check_unknowns", .glo "_check_wishes"]
def faL1 : List He.Fa := [.glo "_check_goal", .glo "_law_draw", .glo "_law_heap", .glo "_law_pick", .glo "top_of", .glo "is_number", .glo "checked_wish", .glo "_sums_of", .glo "open_sums", .glo "either_left"]
def faL2 : List He.Fa := [.glo "either_point", .glo "sure_sum", .glo "_sum_box", .glo "either_box", .glo "either_draws", .glo "_law_points", .glo "_law_total", .glo "_law_top", .glo "_law_kept", .glo "_law_no_top"]
def faL3 : List He.Fa := [.glo "_law_amounts", .glo "_law_sums", .glo "_law_world", .glo "_law_due_draws", .glo "_law_point_right", .glo "_law_left_right", .glo "_law_drawn_right", .glo "_law_refused", .glo "_law_small_right", .glo "_law_great_right"]
def faL4 : List He.Fa := [.glo "_law_word", .glo "law", .glo "Refused", .glo "Task", .glo "WORDS", .glo "WISH_TESTS", .int "LONGEST_NAME" 6, .int "MOST_SUMS" 6, .str "LETTERS" "abcdefghijklmnopqrstuvwxyz", .exm "Refused" "Refused" true]
def faL5 : List He.Fa := [.cls "Task", .noat "Task" "unknowns", .noat "Task" "wishes", .noat "Task" "goal", .mkr "Task", .free "len", .free "range", .free "int", .free "abs", .free "all"]
def faL6 : List He.Fa := [.free "sum", .free "repr", .free "tuple", .free "bool", .free "str", .free "zip", .free "any", .free "enumerate", .free "isinstance", .free "min"]
def faL7 : List He.Fa := [.free "max"]
def faL : List He.Fa := faL0 ++ faL1 ++ faL2 ++ faL3 ++ faL4 ++ faL5 ++ faL6 ++ faL7
abbrev pD : He.Defn := ("_law_refused", none)
def tfL : List He.Defn := [pD]
def tsL : List He.Tab := [(fun K => He.ga K "WISH_TESTS", ["sum", "unlike", "table", "either", "bench", "room", "round"])]
/-- a tuple of the top -/
def tupB (K : Frag) (a : Addr) (xs : List L2.V) : Bool := match K.lookup a with
  | some ⟨.type t, _, .seq its _, _⟩ => decide (t = "tuple") && (decide (its.size ≤ sizeLine) && He.relAll xs its.toList)
  | _ => false
theorem tupB_ok {K : Frag} {a : Addr} {xs : List L2.V} (h : tupB K a xs = true) (H : L2.Hp) : L2.SqT K H a xs := by
  unfold tupB at h
  cases q : K.lookup a with
  | none => rw [q] at h; cases h
  | some o =>
    obtain ⟨oc, od, dt, osl⟩ := o
    rw [q] at h
    cases oc with
    | type t =>
      cases dt with
      | seq its n =>
        obtain ⟨h1, h2⟩ := He.ba h
        obtain ⟨h3, h4⟩ := He.ba h2
        obtain rfl := of_decide_eq_true h1
        exact .inr ⟨_, its, n, q, rfl, rfl, of_decide_eq_true h3, He.relAll_ok h4⟩
      | _ => cases h
    | _ => cases dt <;> cases h
def exB (K : Frag) : Bool := clsB K "Refused" && (tupB K (He.ga K "WORDS") (wordsL.map L2.V.str) && (He.valsB K (He.ga K "WISH_TESTS") [("sum", .glo "_is_sum"), ("either", .glo "_is_either")] && decide (He.ga K "_is_either" ≠ He.ga K "_is_sum")))
open C8 (Cal Mak)
section
variable {P : Program} {w : World} {K : Frag} {mg : PySem.Str → Option Value} {base : Heap} {x : PySem.Str} {j k : Nat} {sp : Sp} {ks : List PySem.Str} {gV : List L2.V → List L2.V}
theorem calM (c : Cal P w K mg base j x sp []) (h : j ≤ k) : Cal P w K mg base k x sp [] := by
  obtain ⟨f, fd, ps, ds, F, r⟩ := c
  exact ⟨f, fd, ps, ds, F.mono h, r⟩
theorem calxM (c : CalX P w K mg base j x sp) (h : j ≤ k) : CalX P w K mg base k x sp := by
  obtain ⟨f, fd, ps, F, r⟩ := c.ex
  exact ⟨⟨f, fd, ps, F.mono h, r⟩⟩
theorem calgM (c : CalG P w K mg base j x sp) (h : j ≤ k) : CalG P w K mg base k x sp := by
  obtain ⟨f, fd, ps, F, r⟩ := c.ex
  exact ⟨⟨f, fd, ps, F.mono h, r⟩⟩
theorem calkM (c : CalK P w K mg base j x ks gV sp) (h : j ≤ k) : CalK P w K mg base k x ks gV sp := by
  obtain ⟨f, fd, ps, gu, CX, hC, F, r⟩ := c.ex
  exact ⟨⟨f, fd, ps, gu, CX, hC, F.mono h, r⟩⟩
end
theorem facts {l : OpenLaw} {w : World} {K : Frag} {h : Heap} {mg : PySem.Str → Option Value} {fa : Addr} (X : K.In h) (G : h.Ns mainGlobals mg) (hfa : mg ("law" : PySem.Str) = some (.ref fa)) (c : He.SaysX faL fnL tsL tfL exB w h K) : LawG l w K 15 63 "script" mg fa h := by
  have cd := c.t.d
  obtain ⟨x2, x⟩ := He.ba c.more
  obtain ⟨x3, x⟩ := He.ba x
  obtain ⟨x4, x5⟩ := He.ba x
  have x5 := of_decide_eq_true x5
  have g_is_whole : mg "is_whole" = some (.ref (He.ga K "is_whole")) := He.glo_ok X G (cd.fact 0 (f := .glo "is_whole") rfl)
  obtain ⟨fd_is_whole, W_is_whole⟩ := cd.def_ 0 (d := d_is_whole) rfl
  have F_is_whole : Fun K "is_whole" "is_whole" s_is_whole (He.ga K "is_whole") fd_is_whole := funOf W_is_whole
  have D_is_whole : Df K mg "is_whole" s_is_whole ["value"] := ⟨_, _, F_is_whole, g_is_whole, F_is_whole.binds fun _ _ _ _ _ _ us hl => match us, hl with | [_], _ => rfl⟩
  have g_is_integers : mg "is_integers" = some (.ref (He.ga K "is_integers")) := He.glo_ok X G (cd.fact 1 (f := .glo "is_integers") rfl)
  obtain ⟨fd_is_integers, W_is_integers⟩ := cd.def_ 1 (d := d_is_integers) rfl
  have F_is_integers : Fun K "is_integers" "is_integers" s_is_integers (He.ga K "is_integers") fd_is_integers := funOf W_is_integers
  have D_is_integers : Df K mg "is_integers" s_is_integers ["value", "many"] := ⟨_, _, F_is_integers, g_is_integers, F_is_integers.binds fun _ _ _ _ _ _ us hl => match us, hl with | [_, _], _ => rfl⟩
  have g_is_sum : mg "_is_sum" = some (.ref (He.ga K "_is_sum")) := He.glo_ok X G (cd.fact 2 (f := .glo "_is_sum") rfl)
  obtain ⟨fd_is_sum, W_is_sum⟩ := cd.def_ 2 (d := d_is_sum) rfl
  have F_is_sum : Fun K "_is_sum" "_is_sum" s_is_sum (He.ga K "_is_sum") fd_is_sum := funOf W_is_sum
  have D_is_sum : Df K mg "_is_sum" s_is_sum ["value", "size"] := ⟨_, _, F_is_sum, g_is_sum, F_is_sum.binds fun _ _ _ _ _ _ us hl => match us, hl with | [_, _], _ => rfl⟩
  have g_is_either : mg "_is_either" = some (.ref (He.ga K "_is_either")) := He.glo_ok X G (cd.fact 3 (f := .glo "_is_either") rfl)
  obtain ⟨fd_is_either, W_is_either⟩ := cd.def_ 3 (d := d_is_either) rfl
  have F_is_either : Fun K "_is_either" "_is_either" s_is_either (He.ga K "_is_either") fd_is_either := funOf W_is_either
  have D_is_either : Df K mg "_is_either" s_is_either ["value", "size"] := ⟨_, _, F_is_either, g_is_either, F_is_either.binds fun _ _ _ _ _ _ us hl => match us, hl with | [_, _], _ => rfl⟩
  have g_is_wish : mg "is_wish" = some (.ref (He.ga K "is_wish")) := He.glo_ok X G (cd.fact 4 (f := .glo "is_wish") rfl)
  obtain ⟨fd_is_wish, W_is_wish⟩ := cd.def_ 4 (d := d_is_wish) rfl
  have F_is_wish : Fun K "is_wish" "is_wish" s_is_wish (He.ga K "is_wish") fd_is_wish := funOf W_is_wish
  have D_is_wish : Df K mg "is_wish" s_is_wish ["value", "size"] := ⟨_, _, F_is_wish, g_is_wish, F_is_wish.binds fun _ _ _ _ _ _ us hl => match us, hl with | [_, _], _ => rfl⟩
  have g_is_name : mg "is_name" = some (.ref (He.ga K "is_name")) := He.glo_ok X G (cd.fact 5 (f := .glo "is_name") rfl)
  obtain ⟨fd_is_name, W_is_name⟩ := cd.def_ 5 (d := d_is_name) rfl
  have F_is_name : Fun K "is_name" "is_name" s_is_name (He.ga K "is_name") fd_is_name := funOf W_is_name
  have D_is_name : Df K mg "is_name" s_is_name ["value"] := ⟨_, _, F_is_name, g_is_name, F_is_name.binds fun _ _ _ _ _ _ us hl => match us, hl with | [_], _ => rfl⟩
  have g_is_pair : mg "is_pair" = some (.ref (He.ga K "is_pair")) := He.glo_ok X G (cd.fact 6 (f := .glo "is_pair") rfl)
  obtain ⟨fd_is_pair, W_is_pair⟩ := cd.def_ 6 (d := d_is_pair) rfl
  have F_is_pair : Fun K "is_pair" "is_pair" s_is_pair (He.ga K "is_pair") fd_is_pair := funOf W_is_pair
  have D_is_pair : Df K mg "is_pair" s_is_pair ["value"] := ⟨_, _, F_is_pair, g_is_pair, F_is_pair.binds fun _ _ _ _ _ _ us hl => match us, hl with | [_], _ => rfl⟩
  have g_is_unknown : mg "_is_unknown" = some (.ref (He.ga K "_is_unknown")) := He.glo_ok X G (cd.fact 7 (f := .glo "_is_unknown") rfl)
  obtain ⟨fd_is_unknown, W_is_unknown⟩ := cd.def_ 7 (d := d_is_unknown) rfl
  have F_is_unknown : Fun K "_is_unknown" "_is_unknown" s_is_unknown (He.ga K "_is_unknown") fd_is_unknown := funOf W_is_unknown
  have D_is_unknown : Df K mg "_is_unknown" s_is_unknown ["value"] := ⟨_, _, F_is_unknown, g_is_unknown, F_is_unknown.binds fun _ _ _ _ _ _ us hl => match us, hl with | [_], _ => rfl⟩
  have g_check_unknowns : mg "_check_unknowns" = some (.ref (He.ga K "_check_unknowns")) := He.glo_ok X G (cd.fact 8 (f := .glo "_check_unknowns") rfl)
  obtain ⟨fd_check_unknowns, W_check_unknowns⟩ := cd.def_ 8 (d := d_check_unknowns) rfl
  have F_check_unknowns : Fun K "_check_unknowns" "_check_unknowns" s_check_unknowns (He.ga K "_check_unknowns") fd_check_unknowns := funOf W_check_unknowns
  have D_check_unknowns : Df K mg "_check_unknowns" s_check_unknowns ["value"] := ⟨_, _, F_check_unknowns, g_check_unknowns, F_check_unknowns.binds fun _ _ _ _ _ _ us hl => match us, hl with | [_], _ => rfl⟩
  have g_check_wishes : mg "_check_wishes" = some (.ref (He.ga K "_check_wishes")) := He.glo_ok X G (cd.fact 9 (f := .glo "_check_wishes") rfl)
  obtain ⟨fd_check_wishes, W_check_wishes⟩ := cd.def_ 9 (d := d_check_wishes) rfl
  have F_check_wishes : Fun K "_check_wishes" "_check_wishes" s_check_wishes (He.ga K "_check_wishes") fd_check_wishes := funOf W_check_wishes
  have D_check_wishes : Df K mg "_check_wishes" s_check_wishes ["value", "size"] := ⟨_, _, F_check_wishes, g_check_wishes, F_check_wishes.binds fun _ _ _ _ _ _ us hl => match us, hl with | [_, _], _ => rfl⟩
  have g_check_goal : mg "_check_goal" = some (.ref (He.ga K "_check_goal")) := He.glo_ok X G (cd.fact 10 (f := .glo "_check_goal") rfl)
  obtain ⟨fd_check_goal, W_check_goal⟩ := cd.def_ 10 (d := d_check_goal) rfl
  have F_check_goal : Fun K "_check_goal" "_check_goal" s_check_goal (He.ga K "_check_goal") fd_check_goal := funOf W_check_goal
  have D_check_goal : Df K mg "_check_goal" s_check_goal ["value", "size"] := ⟨_, _, F_check_goal, g_check_goal, F_check_goal.binds fun _ _ _ _ _ _ us hl => match us, hl with | [_, _], _ => rfl⟩
  have g_Ldraw : mg "_law_draw" = some (.ref (He.ga K "_law_draw")) := He.glo_ok X G (cd.fact 11 (f := .glo "_law_draw") rfl)
  obtain ⟨fd_Ldraw, W_Ldraw⟩ := cd.def_ 11 (d := d_Ldraw) rfl
  have F_Ldraw : Fun K "_law_draw" "_law_draw" s_Ldraw (He.ga K "_law_draw") fd_Ldraw := funOf W_Ldraw
  have D_Ldraw : Df K mg "_law_draw" s_Ldraw ["heap", "many"] := ⟨_, _, F_Ldraw, g_Ldraw, F_Ldraw.binds fun _ _ _ _ _ _ us hl => match us, hl with | [_, _], _ => rfl⟩
  have g_Lheap : mg "_law_heap" = some (.ref (He.ga K "_law_heap")) := He.glo_ok X G (cd.fact 12 (f := .glo "_law_heap") rfl)
  obtain ⟨fd_Lheap, W_Lheap⟩ := cd.def_ 12 (d := d_Lheap) rfl
  have F_Lheap : Fun K "_law_heap" "_law_heap" s_Lheap (He.ga K "_law_heap") fd_Lheap := funOf W_Lheap
  have D_Lheap : Df K mg "_law_heap" s_Lheap ["script"] := ⟨_, _, F_Lheap, g_Lheap, F_Lheap.binds fun _ _ _ _ _ _ us hl => match us, hl with | [_], _ => rfl⟩
  have g_Lpick : mg "_law_pick" = some (.ref (He.ga K "_law_pick")) := He.glo_ok X G (cd.fact 13 (f := .glo "_law_pick") rfl)
  obtain ⟨fd_Lpick, W_Lpick⟩ := cd.def_ 13 (d := d_Lpick) rfl
  have F_Lpick : Fun K "_law_pick" "_law_pick" s_Lpick (He.ga K "_law_pick") fd_Lpick := funOf W_Lpick
  have D_Lpick : Df K mg "_law_pick" s_Lpick ["heap", "some"] := ⟨_, _, F_Lpick, g_Lpick, F_Lpick.binds fun _ _ _ _ _ _ us hl => match us, hl with | [_, _], _ => rfl⟩
  have g_top_of : mg "top_of" = some (.ref (He.ga K "top_of")) := He.glo_ok X G (cd.fact 14 (f := .glo "top_of") rfl)
  obtain ⟨fd_top_of, W_top_of⟩ := cd.def_ 14 (d := d_top_of) rfl
  have F_top_of : Fun K "top_of" "top_of" s_top_of (He.ga K "top_of") fd_top_of := funOf W_top_of
  have D_top_of : Df K mg "top_of" s_top_of ["item", "box"] := ⟨_, _, F_top_of, g_top_of, F_top_of.binds fun _ _ _ _ _ _ us hl => match us, hl with | [_, _], _ => rfl⟩
  have g_is_number : mg "is_number" = some (.ref (He.ga K "is_number")) := He.glo_ok X G (cd.fact 15 (f := .glo "is_number") rfl)
  obtain ⟨fd_is_number, W_is_number⟩ := cd.def_ 15 (d := d_is_number) rfl
  have F_is_number : Fun K "is_number" "is_number" s_is_number (He.ga K "is_number") fd_is_number := funOf W_is_number
  have D_is_number : Df K mg "is_number" s_is_number ["value"] := ⟨_, _, F_is_number, g_is_number, F_is_number.binds fun _ _ _ _ _ _ us hl => match us, hl with | [_], _ => rfl⟩
  have g_checked_wish : mg "checked_wish" = some (.ref (He.ga K "checked_wish")) := He.glo_ok X G (cd.fact 16 (f := .glo "checked_wish") rfl)
  obtain ⟨fd_checked_wish, W_checked_wish⟩ := cd.def_ 16 (d := d_checked_wish) rfl
  have F_checked_wish : Fun K "checked_wish" "checked_wish" s_checked_wish (He.ga K "checked_wish") fd_checked_wish := funOf W_checked_wish
  have D_checked_wish : Df K mg "checked_wish" s_checked_wish ["task", "number", "kinds"] := ⟨_, _, F_checked_wish, g_checked_wish, F_checked_wish.binds fun _ _ _ _ _ _ us hl => match us, hl with | [_, _, _], _ => rfl⟩
  have g_sums_of : mg "_sums_of" = some (.ref (He.ga K "_sums_of")) := He.glo_ok X G (cd.fact 17 (f := .glo "_sums_of") rfl)
  obtain ⟨fd_sums_of, W_sums_of⟩ := cd.def_ 17 (d := d_sums_of) rfl
  have F_sums_of : Fun K "_sums_of" "_sums_of" s_sums_of (He.ga K "_sums_of") fd_sums_of := funOf W_sums_of
  have D_sums_of : Df K mg "_sums_of" s_sums_of ["task", "number"] := ⟨_, _, F_sums_of, g_sums_of, F_sums_of.binds fun _ _ _ _ _ _ us hl => match us, hl with | [_, _], _ => rfl⟩
  have g_open_sums : mg "open_sums" = some (.ref (He.ga K "open_sums")) := He.glo_ok X G (cd.fact 18 (f := .glo "open_sums") rfl)
  obtain ⟨fd_open_sums, W_open_sums⟩ := cd.def_ 18 (d := d_open_sums) rfl
  have F_open_sums : Fun K "open_sums" "open_sums" s_open_sums (He.ga K "open_sums") fd_open_sums := funOf W_open_sums
  have D_open_sums : Df K mg "open_sums" s_open_sums ["task", "number", "box"] := ⟨_, _, F_open_sums, g_open_sums, F_open_sums.binds fun _ _ _ _ _ _ us hl => match us, hl with | [_, _, _], _ => rfl⟩
  have g_either_left : mg "either_left" = some (.ref (He.ga K "either_left")) := He.glo_ok X G (cd.fact 19 (f := .glo "either_left") rfl)
  obtain ⟨fd_either_left, W_either_left⟩ := cd.def_ 19 (d := d_either_left) rfl
  have F_either_left : Fun K "either_left" "either_left" s_either_left (He.ga K "either_left") fd_either_left := funOf W_either_left
  have D_either_left : Df K mg "either_left" s_either_left ["task", "number", "box"] := ⟨_, _, F_either_left, g_either_left, F_either_left.binds fun _ _ _ _ _ _ us hl => match us, hl with | [_, _, _], _ => rfl⟩
  have g_either_point : mg "either_point" = some (.ref (He.ga K "either_point")) := He.glo_ok X G (cd.fact 20 (f := .glo "either_point") rfl)
  obtain ⟨fd_either_point, W_either_point⟩ := cd.def_ 20 (d := d_either_point) rfl
  have F_either_point : Fun K "either_point" "either_point" s_either_point (He.ga K "either_point") fd_either_point := funOf W_either_point
  have D_either_point : Df K mg "either_point" s_either_point ["task", "number", "box"] := ⟨_, _, F_either_point, g_either_point, F_either_point.binds fun _ _ _ _ _ _ us hl => match us, hl with | [_, _, _], _ => rfl⟩
  have g_sure_sum : mg "sure_sum" = some (.ref (He.ga K "sure_sum")) := He.glo_ok X G (cd.fact 21 (f := .glo "sure_sum") rfl)
  obtain ⟨fd_sure_sum, W_sure_sum⟩ := cd.def_ 21 (d := d_sure_sum) rfl
  have F_sure_sum : Fun K "sure_sum" "sure_sum" s_sure_sum (He.ga K "sure_sum") fd_sure_sum := funOf W_sure_sum
  have D_sure_sum : Df K mg "sure_sum" s_sure_sum ["task", "number", "box"] := ⟨_, _, F_sure_sum, g_sure_sum, F_sure_sum.binds fun _ _ _ _ _ _ us hl => match us, hl with | [_, _, _], _ => rfl⟩
  have g_sum_box : mg "_sum_box" = some (.ref (He.ga K "_sum_box")) := He.glo_ok X G (cd.fact 22 (f := .glo "_sum_box") rfl)
  obtain ⟨fd_sum_box, W_sum_box⟩ := cd.def_ 22 (d := d_sum_box) rfl
  have F_sum_box : Fun K "_sum_box" "_sum_box" s_sum_box (He.ga K "_sum_box") fd_sum_box := funOf W_sum_box
  have D_sum_box : Df K mg "_sum_box" s_sum_box ["item", "box"] := ⟨_, _, F_sum_box, g_sum_box, F_sum_box.binds fun _ _ _ _ _ _ us hl => match us, hl with | [_, _], _ => rfl⟩
  have g_either_box : mg "either_box" = some (.ref (He.ga K "either_box")) := He.glo_ok X G (cd.fact 23 (f := .glo "either_box") rfl)
  obtain ⟨fd_either_box, W_either_box⟩ := cd.def_ 23 (d := d_either_box) rfl
  have F_either_box : Fun K "either_box" "either_box" s_either_box (He.ga K "either_box") fd_either_box := funOf W_either_box
  have D_either_box : Df K mg "either_box" s_either_box ["task", "number", "box"] := ⟨_, _, F_either_box, g_either_box, F_either_box.binds fun _ _ _ _ _ _ us hl => match us, hl with | [_, _, _], _ => rfl⟩
  have g_either_draws : mg "either_draws" = some (.ref (He.ga K "either_draws")) := He.glo_ok X G (cd.fact 24 (f := .glo "either_draws") rfl)
  obtain ⟨fd_either_draws, W_either_draws⟩ := cd.def_ 24 (d := d_either_draws) rfl
  have F_either_draws : Fun K "either_draws" "either_draws" s_either_draws (He.ga K "either_draws") fd_either_draws := funOf W_either_draws
  have D_either_draws : Df K mg "either_draws" s_either_draws ["task", "number", "box"] := ⟨_, _, F_either_draws, g_either_draws, F_either_draws.binds fun _ _ _ _ _ _ us hl => match us, hl with | [_, _, _], _ => rfl⟩
  have g_Lpoints : mg "_law_points" = some (.ref (He.ga K "_law_points")) := He.glo_ok X G (cd.fact 25 (f := .glo "_law_points") rfl)
  obtain ⟨fd_Lpoints, W_Lpoints⟩ := cd.def_ 25 (d := d_Lpoints) rfl
  have F_Lpoints : Fun K "_law_points" "_law_points" s_Lpoints (He.ga K "_law_points") fd_Lpoints := funOf W_Lpoints
  have D_Lpoints : Df K mg "_law_points" s_Lpoints ["box"] := ⟨_, _, F_Lpoints, g_Lpoints, F_Lpoints.binds fun _ _ _ _ _ _ us hl => match us, hl with | [_], _ => rfl⟩
  have g_Ltotal : mg "_law_total" = some (.ref (He.ga K "_law_total")) := He.glo_ok X G (cd.fact 26 (f := .glo "_law_total") rfl)
  obtain ⟨fd_Ltotal, W_Ltotal⟩ := cd.def_ 26 (d := d_Ltotal) rfl
  have F_Ltotal : Fun K "_law_total" "_law_total" s_Ltotal (He.ga K "_law_total") fd_Ltotal := funOf W_Ltotal
  have D_Ltotal : Df K mg "_law_total" s_Ltotal ["amounts", "point"] := ⟨_, _, F_Ltotal, g_Ltotal, F_Ltotal.binds fun _ _ _ _ _ _ us hl => match us, hl with | [_, _], _ => rfl⟩
  have g_Ltop : mg "_law_top" = some (.ref (He.ga K "_law_top")) := He.glo_ok X G (cd.fact 27 (f := .glo "_law_top") rfl)
  obtain ⟨fd_Ltop, W_Ltop⟩ := cd.def_ 27 (d := d_Ltop) rfl
  have F_Ltop : Fun K "_law_top" "_law_top" s_Ltop (He.ga K "_law_top") fd_Ltop := funOf W_Ltop
  have D_Ltop : Df K mg "_law_top" s_Ltop ["amounts", "box"] := ⟨_, _, F_Ltop, g_Ltop, F_Ltop.binds fun _ _ _ _ _ _ us hl => match us, hl with | [_, _], _ => rfl⟩
  have g_Lkept : mg "_law_kept" = some (.ref (He.ga K "_law_kept")) := He.glo_ok X G (cd.fact 28 (f := .glo "_law_kept") rfl)
  obtain ⟨fd_Lkept, W_Lkept⟩ := cd.def_ 28 (d := d_Lkept) rfl
  have F_Lkept : Fun K "_law_kept" "_law_kept" s_Lkept (He.ga K "_law_kept") fd_Lkept := funOf W_Lkept
  have D_Lkept : Df K mg "_law_kept" s_Lkept ["sums", "point"] := ⟨_, _, F_Lkept, g_Lkept, F_Lkept.binds fun _ _ _ _ _ _ us hl => match us, hl with | [_, _], _ => rfl⟩
  have g_Lno_top : mg "_law_no_top" = some (.ref (He.ga K "_law_no_top")) := He.glo_ok X G (cd.fact 29 (f := .glo "_law_no_top") rfl)
  obtain ⟨fd_Lno_top, W_Lno_top⟩ := cd.def_ 29 (d := d_Lno_top) rfl
  have F_Lno_top : Fun K "_law_no_top" "_law_no_top" s_Lno_top (He.ga K "_law_no_top") fd_Lno_top := funOf W_Lno_top
  have D_Lno_top : Df K mg "_law_no_top" s_Lno_top ["sums", "box"] := ⟨_, _, F_Lno_top, g_Lno_top, F_Lno_top.binds fun _ _ _ _ _ _ us hl => match us, hl with | [_, _], _ => rfl⟩
  have g_Lamounts : mg "_law_amounts" = some (.ref (He.ga K "_law_amounts")) := He.glo_ok X G (cd.fact 30 (f := .glo "_law_amounts") rfl)
  obtain ⟨fd_Lamounts, W_Lamounts⟩ := cd.def_ 30 (d := d_Lamounts) rfl
  have F_Lamounts : Fun K "_law_amounts" "_law_amounts" s_Lamounts (He.ga K "_law_amounts") fd_Lamounts := funOf W_Lamounts
  have D_Lamounts : Df K mg "_law_amounts" s_Lamounts ["heap", "size", "most"] := ⟨_, _, F_Lamounts, g_Lamounts, F_Lamounts.binds fun _ _ _ _ _ _ us hl => match us, hl with | [_, _, _], _ => rfl⟩
  have g_Lsums : mg "_law_sums" = some (.ref (He.ga K "_law_sums")) := He.glo_ok X G (cd.fact 31 (f := .glo "_law_sums") rfl)
  obtain ⟨fd_Lsums, W_Lsums⟩ := cd.def_ 31 (d := d_Lsums) rfl
  have F_Lsums : Fun K "_law_sums" "_law_sums" s_Lsums (He.ga K "_law_sums") fd_Lsums := funOf W_Lsums
  have D_Lsums : Df K mg "_law_sums" s_Lsums ["heap", "box", "many", "most"] := ⟨_, _, F_Lsums, g_Lsums, F_Lsums.binds fun _ _ _ _ _ _ us hl => match us, hl with | [_, _, _, _], _ => rfl⟩
  have g_Lworld : mg "_law_world" = some (.ref (He.ga K "_law_world")) := He.glo_ok X G (cd.fact 32 (f := .glo "_law_world") rfl)
  obtain ⟨fd_Lworld, W_Lworld⟩ := cd.def_ 32 (d := d_Lworld) rfl
  have F_Lworld : Fun K "_law_world" "_law_world" s_Lworld (He.ga K "_law_world") fd_Lworld := funOf W_Lworld
  have D_Lworld : Df K mg "_law_world" s_Lworld ["heap", "box", "many", "most"] := ⟨_, _, F_Lworld, g_Lworld, F_Lworld.binds fun _ _ _ _ _ _ us hl => match us, hl with | [_, _, _, _], _ => rfl⟩
  have g_Ldue_draws : mg "_law_due_draws" = some (.ref (He.ga K "_law_due_draws")) := He.glo_ok X G (cd.fact 33 (f := .glo "_law_due_draws") rfl)
  obtain ⟨fd_Ldue_draws, W_Ldue_draws⟩ := cd.def_ 33 (d := d_Ldue_draws) rfl
  have F_Ldue_draws : Fun K "_law_due_draws" "_law_due_draws" s_Ldue_draws (He.ga K "_law_due_draws") fd_Ldue_draws := funOf W_Ldue_draws
  have D_Ldue_draws : Df K mg "_law_due_draws" s_Ldue_draws ["box", "least", "number"] := ⟨_, _, F_Ldue_draws, g_Ldue_draws, F_Ldue_draws.binds fun _ _ _ _ _ _ us hl => match us, hl with | [_, _, _], _ => rfl⟩
  have g_Lpoint_right : mg "_law_point_right" = some (.ref (He.ga K "_law_point_right")) := He.glo_ok X G (cd.fact 34 (f := .glo "_law_point_right") rfl)
  obtain ⟨fd_Lpoint_right, W_Lpoint_right⟩ := cd.def_ 34 (d := d_Lpoint_right) rfl
  have F_Lpoint_right : Fun K "_law_point_right" "_law_point_right" s_Lpoint_right (He.ga K "_law_point_right") fd_Lpoint_right := funOf W_Lpoint_right
  have D_Lpoint_right : Df K mg "_law_point_right" s_Lpoint_right ["sums", "box", "point"] := ⟨_, _, F_Lpoint_right, g_Lpoint_right, F_Lpoint_right.binds fun _ _ _ _ _ _ us hl => match us, hl with | [_, _, _], _ => rfl⟩
  have g_Lleft_right : mg "_law_left_right" = some (.ref (He.ga K "_law_left_right")) := He.glo_ok X G (cd.fact 35 (f := .glo "_law_left_right") rfl)
  obtain ⟨fd_Lleft_right, W_Lleft_right⟩ := cd.def_ 35 (d := d_Lleft_right) rfl
  have F_Lleft_right : Fun K "_law_left_right" "_law_left_right" s_Lleft_right (He.ga K "_law_left_right") fd_Lleft_right := funOf W_Lleft_right
  have D_Lleft_right : Df K mg "_law_left_right" s_Lleft_right ["task", "number", "box", "opened"] := ⟨_, _, F_Lleft_right, g_Lleft_right, F_Lleft_right.binds fun _ _ _ _ _ _ us hl => match us, hl with | [_, _, _, _], _ => rfl⟩
  have g_Ldrawn_right : mg "_law_drawn_right" = some (.ref (He.ga K "_law_drawn_right")) := He.glo_ok X G (cd.fact 36 (f := .glo "_law_drawn_right") rfl)
  obtain ⟨fd_Ldrawn_right, W_Ldrawn_right⟩ := cd.def_ 36 (d := d_Ldrawn_right) rfl
  have F_Ldrawn_right : Fun K "_law_drawn_right" "_law_drawn_right" s_Ldrawn_right (He.ga K "_law_drawn_right") fd_Ldrawn_right := funOf W_Ldrawn_right
  have D_Ldrawn_right : Df K mg "_law_drawn_right" s_Ldrawn_right ["task", "number", "box", "least"] := ⟨_, _, F_Ldrawn_right, g_Ldrawn_right, F_Ldrawn_right.binds fun _ _ _ _ _ _ us hl => match us, hl with | [_, _, _, _], _ => rfl⟩
  have g_Lrefused : mg "_law_refused" = some (.ref (He.ga K "_law_refused")) := He.glo_ok X G (cd.fact 37 (f := .glo "_law_refused") rfl)
  obtain ⟨fd_Lrefused, W_Lrefused⟩ := cd.def_ 37 (d := d_Lrefused) rfl
  have F_Lrefused : Fun K "_law_refused" "_law_refused" s_Lrefused (He.ga K "_law_refused") fd_Lrefused := funOf W_Lrefused
  have D_Lrefused : Df K mg "_law_refused" s_Lrefused ["task", "box", "value"] := ⟨_, _, F_Lrefused, g_Lrefused, F_Lrefused.binds fun _ _ _ _ _ _ us hl => match us, hl with | [_, _, _], _ => rfl⟩
  have g_Lsmall_right : mg "_law_small_right" = some (.ref (He.ga K "_law_small_right")) := He.glo_ok X G (cd.fact 38 (f := .glo "_law_small_right") rfl)
  obtain ⟨fd_Lsmall_right, W_Lsmall_right⟩ := cd.def_ 38 (d := d_Lsmall_right) rfl
  have F_Lsmall_right : Fun K "_law_small_right" "_law_small_right" s_Lsmall_right (He.ga K "_law_small_right") fd_Lsmall_right := funOf W_Lsmall_right
  have D_Lsmall_right : Df K mg "_law_small_right" s_Lsmall_right ["heap", "size", "many"] := ⟨_, _, F_Lsmall_right, g_Lsmall_right, F_Lsmall_right.binds fun _ _ _ _ _ _ us hl => match us, hl with | [_, _, _], _ => rfl⟩
  have g_Lgreat_right : mg "_law_great_right" = some (.ref (He.ga K "_law_great_right")) := He.glo_ok X G (cd.fact 39 (f := .glo "_law_great_right") rfl)
  obtain ⟨fd_Lgreat_right, W_Lgreat_right⟩ := cd.def_ 39 (d := d_Lgreat_right) rfl
  have F_Lgreat_right : Fun K "_law_great_right" "_law_great_right" s_Lgreat_right (He.ga K "_law_great_right") fd_Lgreat_right := funOf W_Lgreat_right
  have D_Lgreat_right : Df K mg "_law_great_right" s_Lgreat_right ["heap", "size"] := ⟨_, _, F_Lgreat_right, g_Lgreat_right, F_Lgreat_right.binds fun _ _ _ _ _ _ us hl => match us, hl with | [_, _], _ => rfl⟩
  have g_Lword : mg "_law_word" = some (.ref (He.ga K "_law_word")) := He.glo_ok X G (cd.fact 40 (f := .glo "_law_word") rfl)
  obtain ⟨fd_Lword, W_Lword⟩ := cd.def_ 40 (d := d_Lword) rfl
  have F_Lword : Fun K "_law_word" "_law_word" s_Lword (He.ga K "_law_word") fd_Lword := funOf W_Lword
  have D_Lword : Df K mg "_law_word" s_Lword ["work"] := ⟨_, _, F_Lword, g_Lword, F_Lword.binds fun _ _ _ _ _ _ us hl => match us, hl with | [_], _ => rfl⟩
  have g_law : mg "law" = some (.ref (He.ga K "law")) := He.glo_ok X G (cd.fact 41 (f := .glo "law") rfl)
  obtain ⟨fd_law, W_law⟩ := cd.def_ 41 (d := d_law) rfl
  have F_law : Fun K "law" "law" s_law (He.ga K "law") fd_law := funOf W_law
  have g_Refused : mg "Refused" = some (.ref (He.ga K "Refused")) := He.glo_ok X G (cd.fact 42 (f := .glo "Refused") rfl)
  have g_Task : mg "Task" = some (.ref (He.ga K "Task")) := He.glo_ok X G (cd.fact 43 (f := .glo "Task") rfl)
  have g_WORDS : mg "WORDS" = some (.ref (He.ga K "WORDS")) := He.glo_ok X G (cd.fact 44 (f := .glo "WORDS") rfl)
  have g_WISH_TESTS : mg "WISH_TESTS" = some (.ref (He.ga K "WISH_TESTS")) := He.glo_ok X G (cd.fact 45 (f := .glo "WISH_TESTS") rfl)
  obtain ⟨t2, z_LONG⟩ := He.int_ok X G (cd.fact 46 (f := .int "LONGEST_NAME" 6) rfl)
  obtain ⟨t1, z_MOST⟩ := He.int_ok X G (cd.fact 47 (f := .int "MOST_SUMS" 6) rfl)
  obtain ⟨t3, z_LETT⟩ := He.str_ok X G (cd.fact 48 (f := .str "LETTERS" "abcdefghijklmnopqrstuvwxyz") rfl)
  have m2 : exmOne K (.ref (He.ga K "Refused")) (.ref (He.ga K "Refused")) = some true := of_decide_eq_true (cd.fact 49 (f := .exm "Refused" "Refused" true) rfl)
  have cT : Cls K (He.ga K "Task") := He.cls_ok (cd.fact 50 (f := .cls "Task") rfl)
  have n_unknowns : NoAttr K (He.ga K "Task") "unknowns" := He.noat_ok (cd.fact 51 (f := .noat "Task" "unknowns") rfl)
  have n_wishes : NoAttr K (He.ga K "Task") "wishes" := He.noat_ok (cd.fact 52 (f := .noat "Task" "wishes") rfl)
  have n_goal : NoAttr K (He.ga K "Task") "goal" := He.noat_ok (cd.fact 53 (f := .noat "Task" "goal") rfl)
  have mT : Mk K (He.ga K "Task") (He.ma K (He.ga K "Task") "__init__") := He.mkr_ok (cd.fact 54 (f := .mkr "Task") rfl)
  have z_len : mg "len" = none := He.free_ok X G (cd.fact 55 (f := .free "len") rfl)
  have z_range : mg "range" = none := He.free_ok X G (cd.fact 56 (f := .free "range") rfl)
  have z_int : mg "int" = none := He.free_ok X G (cd.fact 57 (f := .free "int") rfl)
  have z_abs : mg "abs" = none := He.free_ok X G (cd.fact 58 (f := .free "abs") rfl)
  have z_all : mg "all" = none := He.free_ok X G (cd.fact 59 (f := .free "all") rfl)
  have z_sum : mg "sum" = none := He.free_ok X G (cd.fact 60 (f := .free "sum") rfl)
  have z_repr : mg "repr" = none := He.free_ok X G (cd.fact 61 (f := .free "repr") rfl)
  have z_tuple : mg "tuple" = none := He.free_ok X G (cd.fact 62 (f := .free "tuple") rfl)
  have z_bool : mg "bool" = none := He.free_ok X G (cd.fact 63 (f := .free "bool") rfl)
  have z_str : mg "str" = none := He.free_ok X G (cd.fact 64 (f := .free "str") rfl)
  have z_zip : mg "zip" = none := He.free_ok X G (cd.fact 65 (f := .free "zip") rfl)
  have z_any : mg "any" = none := He.free_ok X G (cd.fact 66 (f := .free "any") rfl)
  have z_enumerate : mg "enumerate" = none := He.free_ok X G (cd.fact 67 (f := .free "enumerate") rfl)
  have z_isinstance : mg "isinstance" = none := He.free_ok X G (cd.fact 68 (f := .free "isinstance") rfl)
  have z_min : mg "min" = none := He.free_ok X G (cd.fact 69 (f := .free "min") rfl)
  have z_max : mg "max" = none := He.free_ok X G (cd.fact 70 (f := .free "max") rfl)
  obtain ⟨fd_iR, W_iR⟩ := cd.def_ 42 (d := d_iR) rfl
  have F_iR : Fun K "__init__" "Refused.__init__" s_iR (He.ma K (He.ga K "Refused") "__init__") fd_iR := funOf W_iR
  have B_iR : Binds K fd_iR ["self", "word"] [] := F_iR.binds fun _ _ _ _ _ _ us hl => match us, hl with | [_, _], _ => rfl
  obtain ⟨fd_Ti, W_Ti⟩ := cd.def_ 43 (d := d_Ti) rfl
  have F_Ti : Fun K "__init__" "Task.__init__" s_Task_init (He.ma K (He.ga K "Task") "__init__") fd_Ti := funOf W_Ti
  have B_Ti : Binds K fd_Ti ["self", "unknowns", "wishes", "goal"] [] := F_Ti.binds fun _ _ _ _ _ _ us hl => match us, hl with | [_, _, _, _], _ => rfl
  have tR := clsB_ok x2 g_Refused
  obtain ⟨es, nn, kd⟩ := c.t.tab 0 (t := (fun K => He.ga K "WISH_TESTS", ["sum", "unlike", "table", "either", "bench", "room", "round"])) rfl
  have kd : L2.KDict K w (He.ga K "WISH_TESTS") es nn := kd
  have T : Txt K mg w (He.ga K "WORDS") (He.ga K "WISH_TESTS") es nn := ⟨z_len, z_range, z_int, z_abs, z_all, z_sum, z_repr, z_tuple, z_bool, z_str, z_zip, z_any, z_enumerate, z_isinstance, z_min, z_max, ⟨_, z_LONG, ⟨_, rfl⟩⟩, ⟨_, z_MOST, ⟨_, rfl⟩⟩, ⟨_, z_LETT, ⟨_, rfl⟩⟩, ⟨_, g_WORDS, rfl⟩, ⟨_, g_WISH_TESTS, rfl⟩, fun H => tupB_ok x3 H, kd⟩
  have CCt : CC K (He.ga K "Task") := ⟨cT, n_unknowns, n_wishes, n_goal⟩
  have E2 : Ex1 K mg (He.ga K "Refused") := ⟨⟨_, tR⟩, m2⟩
  have FC := funCOf (p := pD) F_Lrefused
  have efa : fa = He.ga K "law" := by
    have e := hfa.symm.trans g_law
    cases e
    rfl
  subst efa
  obtain ⟨u0, e0, r0⟩ := He.valsB_ok x4 (q := ("sum", .glo "_is_sum")) (List.mem_cons_self ..)
  obtain ⟨u1, e1, r1⟩ := He.valsB_ok x4 (q := ("either", .glo "_is_either")) (List.mem_cons_of_mem _ (List.mem_cons_self ..))
  have tfp : pD ∈ tfL := List.mem_cons_self ..
  refine ⟨fd_law, [He.cT K pD], spLaw K [((He.cT K pD).2, qR)], fun p hp => ?_, fun p hp => ?_, fun p hp => ?_, ?_, ?_, ?_⟩
  · rw [List.mem_singleton.mp hp]
    exact c.empty pD tfp
  · rw [List.mem_singleton.mp hp]
    exact c.out pD tfp
  · rw [List.mem_singleton.mp hp]
    exact codeHd_of_K X (c.hd pD tfp)
  · intro s u
    obtain ⟨oc, od, kV, doc, pm, an, cdv, ct, osl, rfl, lk, hc⟩ := F_law.ex
    exact .of_eq rfl
  · intro H a ns hl _ hH hS
    refine ⟨a, ns, rfl, hS, hl, fun p hp => ?_, fun _ => rfl⟩
    rw [List.mem_singleton.mp hp]
    exact LamX.TabS.nil (hH _ (List.mem_cons_self ..))
  · intro base _ _ TB
    have TA := TB _ (List.mem_cons_self ..)
    have h0 : CX0 = CX0 ∨ CX0 = L2.CX l.prog w := .inl rfl
    have h1 : L2.CX l.prog w = CX0 ∨ L2.CX l.prog w = L2.CX l.prog w := .inr rfl
    have eR : ExK l.prog w K mg base "Refused" (He.ga K "Refused") := ⟨⟨_, _, tR, ok_iR F_iR, B_iR⟩⟩
    have a_is_whole : Cal l.prog w K mg base 1 "is_whole" spWhole [] := cal_of D_is_whole fun _ _ F => ok_is_whole F T
    have a_is_integers : Cal l.prog w K mg base 2 "is_integers" spInts [] := cal_of D_is_integers fun _ _ F => ok_is_integers F T a_is_whole
    have a_is_sum : Cal l.prog w K mg base 4 "_is_sum" spSum [] := cal_of D_is_sum fun _ _ F => ok_is_sum F T a_is_whole a_is_integers
    have a_is_either : Cal l.prog w K mg base 5 "_is_either" spEither [] := cal_of D_is_either fun _ _ F => ok_is_either F T a_is_sum
    have TS : Tst l.prog w K mg base (He.ga K "WISH_TESTS") (He.ga K "_is_sum") (He.ga K "_is_either") :=
      ⟨⟨_, _, (ok_is_sum F_is_sum T a_is_whole a_is_integers).mono (by decide), F_is_sum.kp, F_is_sum.binds fun _ _ _ _ _ _ us hl => match us, hl with | [_, _], _ => rfl⟩, ⟨_, _, ok_is_either F_is_either T a_is_sum, F_is_either.kp, F_is_either.binds fun _ _ _ _ _ _ us hl => match us, hl with | [_, _], _ => rfl⟩, ⟨_, _, u0, kd.at_, kd.lit, e0, r0⟩, ⟨_, _, u1, kd.at_, kd.lit, e1, r1⟩, x5⟩
    have a_is_wish : Cal l.prog w K mg base 6 "is_wish" spWish [] := cal_of D_is_wish fun _ _ F => ok_is_wish F T TS
    have a_is_name : Cal l.prog w K mg base 1 "is_name" spName [] := cal_of D_is_name fun _ _ F => ok_is_name F T
    have a_is_pair : Cal l.prog w K mg base 2 "is_pair" spPair [] := cal_of D_is_pair fun _ _ F => ok_is_pair F T a_is_whole
    have a_is_unknown : Cal l.prog w K mg base 3 "_is_unknown" spUnknown [] := cal_of D_is_unknown fun _ _ F => ok_is_unknown F T a_is_name a_is_pair
    have a_check_unknowns : Cal l.prog w K mg base 4 "_check_unknowns" spChU [] := cal_of D_check_unknowns fun _ _ F => ok_check_unknowns F T a_is_unknown
    have a_check_wishes : Cal l.prog w K mg base 7 "_check_wishes" spChW [] := cal_of D_check_wishes fun _ _ F => ok_check_wishes F T a_is_wish
    have a_check_goal : Cal l.prog w K mg base 2 "_check_goal" spChG [] := cal_of D_check_goal fun _ _ F => ok_check_goal F T a_is_whole
    have mkT : Mak l.prog w K mg base 8 "Task" (He.ga K "Task") (spTask (He.ga K "Task")) [] := ⟨_, _, _, [], mT, ok_Task_init F_Ti cT ⟨n_unknowns, n_wishes, n_goal⟩ T a_check_unknowns a_check_wishes a_check_goal, g_Task, B_Ti, .nil⟩
    have a_Ldraw : Cal l.prog w K mg base 1 "_law_draw" spDraw [] := cal_of D_Ldraw fun _ _ F => ok_draw F T
    have a_Lheap : Cal l.prog w K mg base 1 "_law_heap" (spHeap K) [] := cal_of D_Lheap fun _ _ F => ok_heap F T
    have a_Lpick : Cal l.prog w K mg base 2 "_law_pick" spPickL [] := cal_of D_Lpick fun _ _ F => ok_pickL F T a_Ldraw
    have a_top_of : Cal l.prog w K mg base 1 "top_of" spTop [] := cal_of D_top_of fun _ _ F => ok_top_of F T
    have a_is_wholeV : Cal l.prog w K mg base 1 "is_whole" (spWh K) [] := cal_of D_is_whole fun _ _ F => ok_is_wholeV F T
    have a_is_number : Cal l.prog w K mg base 2 "is_number" (spNum K) [] := cal_of D_is_number fun _ _ F => ok_is_number F T a_is_wholeV
    have a_checked_wish : CalX l.prog w K mg base 3 "checked_wish" (spChk (He.ga K "Task") (He.ga K "Refused")) := calx_of D_checked_wish fun _ _ F => ok_checked_wish F T CCt eR a_is_number
    have a_sums_of : CalX l.prog w K mg base 4 "_sums_of" (spSums (He.ga K "Task") (He.ga K "Refused")) := calx_of D_sums_of fun _ _ F => ok_sums_of F T a_checked_wish
    have a_open_sums : CalX l.prog w K mg base 5 "open_sums" (spOpen (He.ga K "Task") (He.ga K "Refused")) := calx_of D_open_sums fun _ _ F => ok_open_sums F T a_sums_of a_top_of
    have k_open_sums_box_number_task : CalK l.prog w K mg base 5 "open_sums" ["box", "number", "task"] List.reverse (spOpen (He.ga K "Task") (He.ga K "Refused")) := mkK3 F_open_sums (ok_open_sums F_open_sums T a_sums_of a_top_of) h1 g_open_sums fun _ _ _ _ _ _ _ _ _ => rfl
    have a_either_left : CalX l.prog w K mg base 6 "either_left" (spLeft (He.ga K "Task") (He.ga K "Refused")) := calx_of D_either_left fun _ _ F => ok_either_left F T a_sums_of a_open_sums
    have k_either_left_box_number_task : CalK l.prog w K mg base 6 "either_left" ["box", "number", "task"] List.reverse (spLeft (He.ga K "Task") (He.ga K "Refused")) := mkK3 F_either_left (ok_either_left F_either_left T a_sums_of a_open_sums) h1 g_either_left fun _ _ _ _ _ _ _ _ _ => rfl
    have a_either_point : CalX l.prog w K mg base 6 "either_point" (spPoint (He.ga K "Task") (He.ga K "Refused")) := calx_of D_either_point fun _ _ F => ok_either_point F T a_sums_of a_open_sums
    have k_either_point_box_number_task : CalK l.prog w K mg base 6 "either_point" ["box", "number", "task"] List.reverse (spPoint (He.ga K "Task") (He.ga K "Refused")) := mkK3 F_either_point (ok_either_point F_either_point T a_sums_of a_open_sums) h1 g_either_point fun _ _ _ _ _ _ _ _ _ => rfl
    have a_sure_sum : CalX l.prog w K mg base 6 "sure_sum" (spSure (He.ga K "Task") (He.ga K "Refused")) := calx_of D_sure_sum fun _ _ F => ok_sure_sum F T a_sums_of a_top_of
    have k_sure_sum_box_number_task : CalK l.prog w K mg base 6 "sure_sum" ["box", "number", "task"] List.reverse (spSure (He.ga K "Task") (He.ga K "Refused")) := mkK3 F_sure_sum (ok_sure_sum F_sure_sum T a_sums_of a_top_of) h1 g_sure_sum fun _ _ _ _ _ _ _ _ _ => rfl
    have a_sum_box : Cal l.prog w K mg base 2 "_sum_box" spSumBox [] := cal_of D_sum_box fun _ _ F => ok_sum_box F T a_top_of
    have a_either_box : CalX l.prog w K mg base 6 "either_box" (spBox (He.ga K "Task") (He.ga K "Refused")) := calx_of D_either_box fun _ _ F => ok_either_box F T a_sums_of a_open_sums a_sum_box
    have k_either_box_box_number_task : CalK l.prog w K mg base 6 "either_box" ["box", "number", "task"] List.reverse (spBox (He.ga K "Task") (He.ga K "Refused")) := mkK3 F_either_box (ok_either_box F_either_box T a_sums_of a_open_sums a_sum_box) h1 g_either_box fun _ _ _ _ _ _ _ _ _ => rfl
    have a_either_draws : CalX l.prog w K mg base 7 "either_draws" (spDraws (He.ga K "Task") (He.ga K "Refused")) := calx_of D_either_draws fun _ _ F => ok_either_draws F T a_either_box
    have k_either_draws_box_number_task : CalK l.prog w K mg base 7 "either_draws" ["box", "number", "task"] List.reverse (spDraws (He.ga K "Task") (He.ga K "Refused")) := mkK3 F_either_draws (ok_either_draws F_either_draws T a_either_box) h1 g_either_draws fun _ _ _ _ _ _ _ _ _ => rfl
    have a_Lpoints : Cal l.prog w K mg base 1 "_law_points" spPoints [] := cal_of D_Lpoints fun _ _ F => ok_Lpoints F T
    have a_Ltotal : Cal l.prog w K mg base 1 "_law_total" spTotal [] := cal_of D_Ltotal fun _ _ F => ok_Ltotal F T
    have a_Ltop : Cal l.prog w K mg base 1 "_law_top" spLtop [] := cal_of D_Ltop fun _ _ F => ok_Ltop F T
    have a_Lkept : Cal l.prog w K mg base 2 "_law_kept" spKept [] := cal_of D_Lkept fun _ _ F => ok_Lkept F T a_Ltotal
    have a_Lno_top : Cal l.prog w K mg base 2 "_law_no_top" spNoTop [] := cal_of D_Lno_top fun _ _ F => ok_Lno_top F T a_Ltop
    have a_Lamounts : Cal l.prog w K mg base 3 "_law_amounts" spAmounts [] := cal_of D_Lamounts fun _ _ F => ok_Lamounts F T a_Ldraw a_Lpick
    have a_Lsums : Cal l.prog w K mg base 4 "_law_sums" spLsums [] := cal_of D_Lsums fun _ _ F => ok_Lsums F T a_Ldraw a_Lpick a_Ltop a_Lamounts
    have a_Lworld : Cal l.prog w K mg base 10 "_law_world" (spWorld (He.ga K "Task")) [] := cal_of D_Lworld fun _ _ F => ok_Lworld F T a_Ldraw a_Lpick a_Lsums mkT
    have a_Ldue_draws : Cal l.prog w K mg base 1 "_law_due_draws" spDue [] := cal_of D_Ldue_draws fun _ _ F => ok_Ldue_draws F T
    have a_Lpoint_right : Cal l.prog w K mg base 3 "_law_point_right" spPtRight [] := cal_of D_Lpoint_right fun _ _ F => ok_Lpoint_right F T a_Lkept
    have a_Lleft_right : CalG l.prog w K mg base 9 "_law_left_right" (spLeftRight (He.ga K "Task")) := ⟨_, _, _, ok_Lleft_right F_Lleft_right T CCt a_Lpoint_right (calxM a_either_point (by decide)) (calkM k_open_sums_box_number_task (by decide)) (calkM k_either_left_box_number_task (by decide)) (calkM k_either_point_box_number_task (by decide)), g_Lleft_right, F_Lleft_right.kp, F_Lleft_right.binds fun _ _ _ _ _ _ us hl => match us, hl with | [_, _, _, _], _ => rfl⟩
    have a_Ldrawn_right : CalG l.prog w K mg base 9 "_law_drawn_right" (spDrawnRight (He.ga K "Task")) := ⟨_, _, _, ok_Ldrawn_right F_Ldrawn_right T a_Ldue_draws (calxM a_either_draws (by decide)) (calxM a_either_box (by decide)) (calkM k_either_box_box_number_task (by decide)) (calkM k_either_draws_box_number_task (by decide)), g_Ldrawn_right, F_Ldrawn_right.kp, F_Ldrawn_right.binds fun _ _ _ _ _ _ us hl => match us, hl with | [_, _, _, _], _ => rfl⟩
    have a_Lrefused : Cal l.prog w K mg base 12 "_law_refused" (spRefused [((He.cT K pD).2, qR)] (He.ga K "Task")) [] := ⟨_, _, _, [], ok_Lrefused FC TA (List.mem_cons_self ..) (fun p hp _ => by rw [List.mem_singleton.mp hp]) D_Lword E2 (calxM a_open_sums (by decide)) (calxM a_either_left (by decide)) (calxM a_either_point (by decide)) (calxM a_sure_sum (by decide)) (calxM a_either_box (by decide)) (calxM a_either_draws (by decide)), g_Lrefused, F_Lrefused.kp, F_Lrefused.binds fun _ _ _ _ _ _ us hl => match us, hl with | [_, _, _], _ => rfl, .nil⟩
    have a_Lsmall_right : CalG l.prog w K mg base 14 "_law_small_right" (spSmall [((He.cT K pD).2, qR)]) := ⟨_, _, _, ok_Lsmall_right F_Lsmall_right T CCt a_Ldraw a_Lpick (calM a_Lworld (by decide)) a_Lpoints a_Ltotal a_Lkept (calkM k_sure_sum_box_number_task (by decide)) (calgM a_Lleft_right (by decide)) (calgM a_Ldrawn_right (by decide)) a_Lrefused, g_Lsmall_right, F_Lsmall_right.kp, F_Lsmall_right.binds fun _ _ _ _ _ _ us hl => match us, hl with | [_, _, _], _ => rfl⟩
    have a_Lgreat_right : CalG l.prog w K mg base 13 "_law_great_right" spGreat := ⟨_, _, _, ok_Lgreat_right F_Lgreat_right T CCt a_Ldraw a_Lpick (calM a_Lworld (by decide)) a_Ltop a_Lno_top (calxM a_either_box (by decide)) (calgM a_Lleft_right (by decide)) (calgM a_Ldrawn_right (by decide)), g_Lgreat_right, F_Lgreat_right.kp, F_Lgreat_right.binds fun _ _ _ _ _ _ us hl => match us, hl with | [_, _], _ => rfl⟩
    have LC : LawC l.prog w K mg base (He.ga K "Task") (He.ga K "Refused") [((He.cT K pD).2, qR)] := ⟨a_Lheap, a_Ldraw, a_Lpick, a_Lsmall_right, a_Lgreat_right, mkT, calxM a_open_sums (by decide), calxM a_either_left (by decide), calxM a_either_box (by decide)⟩
    exact ok_law F_law T CCt LC
end M66

open PySem PySem.W PySem.Calls PyProof.Rows
set_option maxHeartbeats 0 in
theorem PySem.Challenge.cw_paperbest_k66_whole_least_boxes_of_eithe_holds : PySem.Challenge.rw_paperbest_k66_whole_least_boxes_of_eithe.Holds := by
  w_on; o_law; k_head; (case hw => w_witness2)
  refine Gd.walk_ofG (l := PySem.Challenge.rw_paperbest_k66_whole_least_boxes_of_eithe) (n := 63) (k := 15) (x := "script") rfl (by decide) (by kernel_rfl) ⟨rfl, by decide, by decide⟩ ?F
  case F =>
    intro w mg fa h Y G hmg
    exact ⟨_, km_in_of Y, M66.facts (km_in_of Y) G hmg ⟨by show He.obsT _ _ _ _ = He.valT _ _ _; kernel_rfl, by kernel_rfl, by intro p hp; rw [List.mem_singleton.mp hp]; kernel_rfl, by intro p hp; rw [List.mem_singleton.mp hp]; kernel_rfl, by intro p hp; rw [List.mem_singleton.mp hp]; exact km_tabs_of Y _ (List.mem_singleton.mpr (by kernel_rfl))⟩⟩
