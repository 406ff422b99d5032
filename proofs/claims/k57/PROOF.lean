import PyProof.Rows.All
import Wide.All
import OpenK.AllK
import Wide.FinOn
import HandS.ForMost
import HandS.Exc
import HandS.WordsExc
import HandS.Codes
import HandS.IsInst
import HandS.Style
import HandS.TupAny
import HandS.TupLe
import HandS.Gcd
import HandS.Zip
import HandS.Deep
import HandS.Wide
import HandS.WideBits
import HandS.ExcInit
import HandS.ExcField
import HandS.TryMany
import HandS.Lambda
import HandS.EndTab
import HandS.Defaults
import HandS.HeadHook1
import HandS.HeadHook2
import HandS.HeadHook3
import HandS.HeadHook4
import KE.KExcIs
import PyProof.ReprRoads
import PyProof.ReprReads
import HandS.Base
import HandS.Call
import HandS.List
import HandS.TupMul
import HandS.Iter
import KE.GoesEnum
import KE.KMathG
import HandS.Head0
import HandS.Head1
import HandS.Head2
import HandS.Head3
import HandS.HeadEnd
import HandS.HeadWalk
import HandS.Comp
import KE.GoesMore
import KE.GoesZip
import KE.KDictZip
import HandS.SetFor
import HandS.Conv
import HandS.Strs
import HandS.Sort
import HandS.More
import HandS.CallLocal
import HandS.Rev
import HandS.Small
import HandS.Dict
import HandS.Text
import PySem.Challenge.RW_paperbest_k57_whole_thresholds_of_differ
import HandS.Walk
import HandS.RaiseMore
import KE.KStateDown
import KE.KNestM
set_option Elab.async false
set_option linter.all false
set_option maxRecDepth 100000
set_option maxHeartbeats 8000000
/-! What the proofs of several laws share: own errors, isinstance of them, calls that may raise or go by keywords, try with named clauses, tables of code objects, the source of draws. -/
namespace Own
open PySem PySem.Spec PyProof.Rows L2
open C8 (Cal pe_c pe_gc pss_cut)
/-! ### own errors -/
/-- what the text says of an error's class: its name x, its class object at C, its __init__ at fI -/
structure ExT (K : PySem.W.Frag) (mg : Str → Option Value) (x : Str) (C fI : Addr) : Prop where
  oex : OexC K C
  iC : PySem.W.findIn K (.ref C) "__init__" = some (some (.ref fI))
  tI : PySem.W.typeIn K (.ref fI) = some (.type "function")
  gC : mg x = some (.ref C)
  xf : XfC K C
  noW : PySem.W.findIn K (.ref C) "word" = some none
/-- the fresh exception at a gets its word y: its dict stands at d -/
def exoHp (H : Hp) (a C d : Addr) (y : V) : Hp := upd (upd H d (exd d [("word", y)])) a (exo a C (some d))
def spInit (K : PySem.W.Frag) : Sp := fun vs H Q _ => ∃ (a C : Addr) (y : V), vs = [.ref a, y] ∧ OexC K C ∧ PySem.W.findIn K (.ref C) "word" = some none ∧ H a = some (exo a C none) ∧ ∀ d, H d = none → d ≠ a → Q .non (exoHp H a C d y)
/-- the class x at C with its __init__ -/
structure ExK (P : Program) (w : World) (K : PySem.W.Frag) (mg : Str → Option Value) (base : Heap) (x : Str) (C : Addr) : Prop where
  ex : ∃ (fI : Addr) (fd : FuncData), ExT K mg x C fI ∧ FnOk P w K mg base CX0 1 fI fd ["self", "word"] (spInit K) ∧ Binds K fd ["self", "word"] []
theorem ExK.T {P : Program} {w : World} {K : PySem.W.Frag} {mg : Str → Option Value} {base : Heap} {x : Str} {C : Addr} (c : ExK P w K mg base x C) : ∃ fI, ExT K mg x C fI := by
  obtain ⟨fI, fd, T, _⟩ := c.ex
  exact ⟨fI, T⟩
theorem ExK.oex {P : Program} {w : World} {K : PySem.W.Frag} {mg : Str → Option Value} {base : Heap} {x : Str} {C : Addr} (c : ExK P w K mg base x C) : OexC K C := c.T.choose_spec.oex
theorem ExK.noW {P : Program} {w : World} {K : PySem.W.Frag} {mg : Str → Option Value} {base : Heap} {x : Str} {C : Addr} (c : ExK P w K mg base x C) : PySem.W.findIn K (.ref C) "word" = some none := c.T.choose_spec.noW
/-- a new exception with the word y -/
def MkE (K : PySem.W.Frag) (C : Addr) (y : V) (H1 : Hp) (Q : XK) : Prop := [y].length ≤ 1000 ∧ ∀ a, H1 a = none → spInit K (.ref a :: ([y] ++ [])) (upd H1 a (exo a C none))
  (fun v H2 => v = .non ∧ ∃ (d : Addr) (fs : List (Str × V)), H2 a = some (exo a C (some d)) ∧ H2 d = some (exd d fs) ∧ H1 d = none ∧ Q (.ref C) (some d) (upd (del H2 a) d (.xd fs))) (fun _ _ _ => False)
theorem mkE_of {K : PySem.W.Frag} {C : Addr} {y : V} {H1 : Hp} {Q : XK} (T : OexC K C) (no : PySem.W.findIn K (.ref C) "word" = some none) (h : ∀ d H2, Same H1 H2 → H2 d = some (.xd [("word", y)]) → Q (.ref C) (some d) H2) : MkE K C y H1 Q := by
  refine ⟨show (1 : Nat) ≤ 1000 from by decide, fun a na => ⟨a, C, y, rfl, T, no, upd_same, fun d nd ne => ⟨rfl, d, _, upd_same, ?_, ?_, h d _ ?_ upd_same⟩⟩⟩
  · unfold exoHp
    rw [upd_ne ne, upd_same]
  · rw [upd_ne ne] at nd; exact nd
  · rw [upd_ne ne] at nd
    intro b o e
    have b1 : b ≠ d := ne_of_none e nd
    have b2 : b ≠ a := ne_of_none e na
    unfold exoHp
    rw [upd_ne b1, del_ne b2, upd_ne b2, upd_ne b1, upd_ne b2]
    exact e
def tNewE (K : PySem.W.Frag) (C : Addr) (te : TE) : L2.St → Hp → XK → Prop := fun σ H Q => te σ H fun y H1 => MkE K C y H1 Q
section
variable {X : Cx} {x : Str} {C : Addr} {e : Expr} {te : TE} {p pos pos2 : Pos} {j : Nat}
theorem pmk_new (c : ExK X.prog X.w X.K X.mg X.base x C) (hr : Room j X.A) (hk : 2 ≤ j) (hg : Gl X x) (he : PE X e te) (hdb : (x == ("__debug__" : Str)) = false := by decide)
    (hs : starEach [e] X.env = (false, eval e X.env) :: starEach [] X.env := by rfl) (hpl : (backTo pos (starEach [] X.env)).any (·.1) = false := by rfl) : PMk X (.Call (.Name x p) [e] [] pos) (tNewE X.K C te) := by
  obtain ⟨fI, fd, T, F, b⟩ := c.ex
  exact pmk_oex T.oex T.iC T.tI F (hr.mono hk) b .nil pass0 hg T.gC (pa_cons he pa_nil hs) hdb hs hpl
/-- raise x(e) -/
def tRaiseE (K : PySem.W.Frag) (W : WX) (C : Addr) (te : TE) : TS := fun _ σ H => tNewE K C te σ H fun cls d H' => W cls d σ H'
theorem ps_raiseE {W : WX} (hc : X.calm = true) (tk : L2.Takes X W) (c : ExK X.prog X.w X.K X.mg X.base x C) (hr : Room j X.A) (hk : 2 ≤ j) (hg : Gl X x) (he : PE X e te) (hdb : (x == ("__debug__" : Str)) = false := by decide)
    (hs : starEach [e] X.env = (false, eval e X.env) :: starEach [] X.env := by rfl) (hpl : (backTo pos (starEach [] X.env)).any (·.1) = false := by rfl) : PS X (.Raise (some (.Call (.Name x p) [e] [] pos)) none pos2) (tRaiseE X.K W C te) :=
  ps_raise hc tk (pmk_new c hr hk hg he hdb hs hpl)
end
/-! ### an exception as a value -/
/-- x(e) as a value -/
def tValE (K : PySem.W.Frag) (C : Addr) (te : TE) : TE := fun σ H Q => te σ H fun y H1 => ∀ a d H2, Same H1 H2 → H1 a = none → H1 d = none → H2 a = some (exo a C (some d)) → H2 d = some (exd d [("word", y)]) → Q (.ref a) H2
section
variable {X : Cx} {x : Str} {C : Addr} {e : Expr} {te : TE} {p pos : Pos} {j : Nat}
theorem pe_newE (c : ExK X.prog X.w X.K X.mg X.base x C) (hr : Room j X.A) (hk : 2 ≤ j) (hg : Gl X x) (ha : PE X e te) (hdb : (x == ("__debug__" : Str)) = false := by decide)
    (he : starEach [e] X.env = (false, eval e X.env) :: starEach [] X.env := by rfl) (hpl : (backTo pos (starEach [] X.env)).any (·.1) = false := by rfl) : PE X (.Call (.Name x p) [e] [] pos) (tValE X.K C te) := by
  obtain ⟨fI, fd, T, F1, hb⟩ := c.ex
  have T0 := T.oex
  obtain ⟨nm, q, N, bs, bm, sn, sub, ab, col, dd, k0, k1, k2, k3, k5, hC, hbm⟩ := T0.cls
  refine ⟨fun pins s σ H Q I h => ?_⟩
  refine wpAny_Call_Name_kw (ld_glob I hg T.gC ?_ hdb)
  refine PySem.W.callWith_K (h₀ := X.base) I.ok.mod.kin T0.kC (thn ((pa_cons ha pa_nil he).run pos pins s σ H (fun vs H1 => match vs with | [y] => ∀ a d H2, Same H1 H2 → H1 a = none → H1 d = none → H2 a = some (exo a C (some d)) → H2 d = some (exd d [("word", y)]) → Q (.ref a) H2 | _ => False) I h) fun us s1 ⟨vs, H1, I1, r1, q1⟩ => ⟨I1.kIn, ?_⟩) he hpl
  obtain ⟨y, rfl⟩ : ∃ y, vs = [y] := by
    match vs, q1 with
    | [y], _ => exact ⟨y, rfl⟩
  replace q1 : ∀ a d H2, Same H1 H2 → H1 a = none → H1 d = none → H2 a = some (exo a C (some d)) → H2 d = some (exd d [("word", y)]) → Q (.ref a) H2 := q1
  show wpAny _ _ (call (.ref C) us) _ _ _
  obtain ⟨hp, g, dr, tk, os⟩ := s1
  have hsz : hp.objs.size ≤ hp.objs.size + 1 := Nat.le_succ _
  have hn : H1 (hp.objs.size + 1) = none := I1.hok.fresh hsz
  have kk : ∀ b o, hp.get? b = some o → ((hp.push (PySem.W.kdv_tup us)).push (PySem.HandSPX.excO C hp.objs.size)).get? b = some o := fun b o e => Heap.get?_push_of_some _ (Heap.get?_push_of_some _ e)
  have hget : ((hp.push (PySem.W.kdv_tup us)).push (PySem.HandSPX.excO C hp.objs.size)).get? (hp.objs.size + 1) = some (PySem.HandSPX.excO C hp.objs.size) := by heap_get
  have I2 : Inv X pins σ (upd H1 (hp.objs.size + 1) (exo (hp.objs.size + 1) C none)) ⟨(hp.push (PySem.W.kdv_tup us)).push (PySem.HandSPX.excO C hp.objs.size), g, dr, tk, os⟩ :=
    I1.laid (t' := tk) (a := hp.objs.size + 1) (o := exo (hp.objs.size + 1) C none) (h' := (hp.push (PySem.W.kdv_tup us)).push (PySem.HandSPX.excO C hp.objs.size)) kk hsz (exo_ok hget)
  have r2 : Vals [V.ref (hp.objs.size + 1), y] (Value.ref (hp.objs.size + 1) :: us) := .cons rfl r1
  have hl : (Value.ref (hp.objs.size + 1) :: us ++ []).length = 2 := by rw [List.append_nil]; exact r2.length.symm
  have hus : us.length ≤ sizeLine := by
    rw [← Paired.length r1, sizeLine_eq]
    exact (by decide : 1 ≤ 16777216)
  have hsp : spInit X.K [V.ref (hp.objs.size + 1), y] (upd H1 (hp.objs.size + 1) (exo (hp.objs.size + 1) C none)) (fun v H2 => v = .non ∧ ∃ d, H1 d = none ∧ Same H1 H2 ∧ H2 (hp.objs.size + 1) = some (exo (hp.objs.size + 1) C (some d)) ∧ H2 d = some (exd d [("word", y)])) (fun _ _ _ => False) := by
    refine ⟨_, C, y, rfl, T0, T.noW, upd_same, fun d nd ne => ⟨rfl, d, ?_, ?_, upd_same, ?_⟩⟩
    · rw [upd_ne ne] at nd; exact nd
    · rw [upd_ne ne] at nd
      intro b o e
      have b1 : b ≠ d := ne_of_none e nd
      have b2 : b ≠ hp.objs.size + 1 := ne_of_none e hn
      unfold exoHp
      rw [upd_ne b2, upd_ne b1, upd_ne b2]
      exact e
    · unfold exoHp
      rw [upd_ne ne, upd_same]
  refine wpAny_call (PySem.HandSPX.call_own F.excBase_ValueError (fun Y => PySem.HandSPX.refsVE_contains Y bm hbm) (I1.kIn _ _ hC) (PySem.W.looks_findIn I1.kIn T.iC) (fun self => PySem.W.bind_fn I1.kIn self T.tI) hus
    (codeAny_mono ((F1.mono (show 1 ≤ 1 from Nat.le_refl _)).run _ X.stack _ _ ⟨Value.ref (hp.objs.size + 1) :: us, []⟩ (Value.ref (hp.objs.size + 1) :: us ++ []) _ _ (fun _ _ _ => False) ((hr.mono hk).make C us []) (I2.env0.make C us []) (hb _ (Value.ref (hp.objs.size + 1) :: us) I2.kIn hl) (by rw [List.append_nil]; exact r2) hsp) fun r s' hq' => ?_))
  cases r with
  | error er => exact (show False from hq').elim
  | ok fl =>
    cases fl with
    | ret u =>
      obtain ⟨v, H2, os2, bare2, un2, hok2, rv, ev, d, nd, sm, ea, ed⟩ := hq'
      subst ev
      obtain ⟨h2, g2, d2, t2, os'⟩ := s'
      refine ⟨rv, ?_⟩
      have J := I2.call' (ch := []) os2 un2 hok2 bare2 (fun b z => absurd z (by simp))
      exact ⟨.ref (hp.objs.size + 1), H2, J, rfl, q1 _ d H2 sm hn nd ea ed⟩
    | next => exact False.elim hq'
    | brk => exact False.elim hq'
    | cont => exact False.elim hq'
end
theorem same_upd {H : Hp} {p : Addr} {o : HO} (h : H p = none) : Same H (upd H p o) := fun b x e => by
  rw [upd_ne (ne_of_none e h)]; exact e
theorem same_at {H0 H : Hp} {D : Addr} {o : HO} (s : Same H0 H) (n : H0 D = none) : Same H0 (upd H D o) := fun b x e => by
  rw [upd_ne (ne_of_none e n)]; exact s _ _ e
theorem sq_tup {K : PySem.W.Frag} {H : Hp} {p : Addr} {xs : List V} (h : H p = some (.tup xs)) : SqT K H p xs := .inl (.inl h)
theorem sq_lst {K : PySem.W.Frag} {H : Hp} {p : Addr} {xs : List V} (h : H p = some (.lst xs)) : SqL K H p xs := .inl (.inl h)
theorem ne_of {H : Hp} {a b : Addr} {x y : HO} (ha : H a = some x) (hb : H b = some y) (n : x ≠ y) : a ≠ b := fun z => by
  rw [z, hb] at ha
  exact n (Option.some.inj ha).symm
/-! ### isinstance, of own errors too -/
structure IsE (K : PySem.W.Frag) (C : Addr) : Prop where
  cl : (PySem.W.clsIn K C).isSome = true
  ga : PySem.W.findIn K (.ref C) "__getattribute__" = some (some (.builtin "BaseException.__getattribute__"))
  gg : PySem.W.findIn K (.ref C) "__getattr__" = some none
  exC : PySem.W.subIn K (.ref C) (.type "BaseException") = some true
  ha : PySem.W.findIn K (.ref C) "__class__" = some (some (.builtin "object.__class__"))
  hn : PySem.W.specialIn K (.builtin "object.__class__") "__get__" = some (some (.builtin "getset_descriptor.__get__"))
  htk : PySem.W.takesIn K (.builtin "object.__class__") = some true
  hm : PySem.W.mroIn K C (.type "object") = some true
inductive TyE (K : PySem.W.Frag) (H : Hp) : V → Value → Prop where
  | base {x : V} {t : Value} (h : TyX K H x t) : TyE K H x t
  | exc {a C d : Addr} {fs : List (Str × V)} (T : IsE K C) (e : H a = some (exo a C (some d))) (f : H d = some (exd d fs)) : TyE K H (.ref a) (.ref C)
def rIsE (K : PySem.W.Frag) : List V → Hp → VK → Prop := fun xs H Q => ∃ (x : V) (t : Value) (n : String) (b : Bool), xs = [x, .ty n] ∧ TyE K H x t ∧ PySem.W.kitOne K t (.type n) = some b ∧ Q (.bl b) H
section
variable {X : Cx}
theorem call_isE : CallR X (.builtin "isinstance") (rIsE X.K) := by
  intro pins s σ H xs us Q I r h
  obtain ⟨x, t, n, b, rfl, ty, e, q⟩ := h
  cases ty with
  | base ty => exact call_isi pins s σ H _ us Q I r ⟨x, .ty n, t, .type n, b, rfl, .ty n, ty, e, q⟩
  | @exc a C d fs T ea ed =>
    obtain ⟨u1, u2, rfl, r1, r2⟩ := vals2 r
    cases (show u1 = Value.ref a from r1)
    cases (show u2 = Value.type n from r2)
    obtain ⟨t1, ho⟩ := exo_at I.hok ea
    obtain ⟨mA, ⟨od, es, ep, hd, hrest⟩, rel⟩ := exd_at I.hok ed
    have J : PySem.W.InstAt s.heap a { cls := .ref C, dict := some d, data := .fields #[.ref t1, .none, .none, .none, .bool false, .none] } C (some od) := ⟨ho, rfl, rfl, hd⟩
    exact PySem.W.kia_one (PySem.W.kitx_exc T.cl T.ga T.gg T.exC T.ha T.hn T.htk T.hm) I.kIn J e (fun z => nomatch z) fun tk => ⟨.bl b, H, I.tok tk, rfl, q⟩
/-! ### // by any divisor but 0 -/
def CDivX (_ j : Int) : Prop := j ≠ 0 ∧ j.natAbs.log2 < 9000
theorem op_fdivX : OpR X (binaryOp .FloorDiv) (rI CDivX fun i j => .int (i.fdiv j)) := opI fun i j _ _ _ _ _ hc q => floordiv_int hc.1 q (.inl (PyProof.noPylong_of_log2 hc.2))
end
theorem divx_ok {i j : Int} {b : Nat} (h : j ≠ 0) (hb : j.natAbs < 2 ^ b) (h0 : 0 < b) (h9 : b ≤ 9000) : CDivX i j := ⟨h, Nat.lt_of_lt_of_le (PySem.Flt.log2_lt_of h0 hb) h9⟩
/-! ### calls -/
/-- a def that may raise -/
structure CalX (P : Program) (w : World) (K : PySem.W.Frag) (mg : Str → Option Value) (base : Heap) (k : Nat) (x : Str) (sp : Sp) : Prop where
  ex : ∃ (f : Addr) (fd : FuncData) (ps : List Str), FnOk P w K mg base (L2.CX P w) k f fd ps sp ∧ mg x = some (.ref f) ∧ PySem.W.keepIn K (.ref f) = true ∧ Binds K fd ps []
section
variable {X : Cx} {k j : Nat} {x : Str} {sp : Sp} {e : Expr} {es : List Expr} {t : TA} {p pos : Pos}
/-- x(..), where x raises nothing -/
theorem pe_x (c : CalX X.prog X.w X.K X.mg X.base k x sp) (hr : Room j X.A) (hk : k ≤ j) (hg : Gl X x) (ha : PA X (e :: es) t)
    (hdb : (x == ("__debug__" : Str)) = false := by decide) (he : starEach (e :: es) X.env = (false, eval e X.env) :: starEach es X.env := by rfl) (hpl : (backTo pos (starEach es X.env)).any (·.1) = false := by rfl) :
    PE X (.Call (.Name x p) (e :: es) [] pos) (tCall sp [] L2.E0 t) := by
  obtain ⟨f, fd, ps, F, hm, kp, b⟩ := c.ex
  exact pe_call F (hr.mono hk) hg hm kp b .nil passL ha hdb he hpl
/-- x(..), where what x raises goes on as E -/
theorem pe_xE {E : XK} (hx : Passes (L2.CX X.prog X.w) X E) (c : CalX X.prog X.w X.K X.mg X.base k x sp) (hr : Room j X.A) (hk : k ≤ j) (hg : Gl X x) (ha : PA X (e :: es) t)
    (hdb : (x == ("__debug__" : Str)) = false := by decide) (he : starEach (e :: es) X.env = (false, eval e X.env) :: starEach es X.env := by rfl) (hpl : (backTo pos (starEach es X.env)).any (·.1) = false := by rfl) :
    PE X (.Call (.Name x p) (e :: es) [] pos) (tCall sp [] E t) := by
  obtain ⟨f, fd, ps, F, hm, kp, b⟩ := c.ex
  exact pe_call F (hr.mono hk) hg hm kp b .nil hx ha hdb he hpl
end
/-- two, exchanged -/
def sw {α : Type} : List α → List α
  | [x, y] => [y, x]
  | _ => []
/-- a call with keywords alone -/
structure CalK (P : Program) (w : World) (K : PySem.W.Frag) (mg : Str → Option Value) (base : Heap) (k : Nat) (x : Str) (ks : List Str) (gV : List V → List V) (sp : Sp) : Prop where
  ex : ∃ (f : Addr) (fd : FuncData) (ps : List Str) (gu : List Value → List Value) (CX : CXT), (CX = CX0 ∨ CX = L2.CX P w) ∧ FnOk P w K mg base CX k f fd ps sp ∧ mg x = some (.ref f) ∧ PySem.W.keepIn K (.ref f) = true ∧
    (∀ (s : Shared) (ws : List Value), (gu ws).length = ps.length → BindsTo s fd ⟨[], ks.zip ws⟩ (ps.zip (gu ws))) ∧ ∀ (zs : List V) (ws : List Value), Vals zs ws → Vals (gV zs) (gu ws)
def tKw (sp : Sp) (gV : List V → List V) (E : XK) (tk : TA) : TE := fun σ H Q => tk σ H fun zs H1 => sp (gV zs) H1 Q E
section
variable {X : Cx} {k j : Nat} {x : Str} {ks : List Str} {gV : List V → List V} {sp : Sp} {p pos : Pos} {kws : List Keyword} {tk : TA}
theorem pe_kwE {E : XK} (hx : Passes (L2.CX X.prog X.w) X E) (c : CalK X.prog X.w X.K X.mg X.base k x ks gV sp) (hr : Room j X.A) (hk : k ≤ j) (hg : Gl X x) (hkw : PK X kws tk)
    (hall : (backToKw pos (keywordEach kws X.env)).all (·.1.isSome) = true := by rfl) (hks : (backToKw pos (keywordEach kws X.env)).filterMap (·.1) = ks := by rfl) (hdb : (x == ("__debug__" : Str)) = false := by decide)
    (hpl : ((backTo pos (starEach [] X.env)).any (·.1) || (backToKw pos (keywordEach kws X.env)).any (·.1.isNone)) = false := by rfl) : PE X (.Call (.Name x p) [] kws pos) (tKw sp gV E tk) := by
  obtain ⟨f, fd, ps, gu, CX, hC, F, hm, kp, bt, rel⟩ := c.ex
  refine ⟨fun pins s1 σ H Q I hh => wpAny_Call_Name_kw (ld_glob I hg hm ?_ hdb)⟩
  refine PySem.W.callWith_KW0 (h₀ := X.base) I.ok.mod.kin kp hall (thn (hkw.run pos pins s1 σ H _ I hh) fun ws s2 hz => ?_) hpl
  obtain ⟨zs, H2, I2, rz, q2⟩ := hz
  refine ⟨I2.kIn, ?_⟩
  rw [hks]
  have r2 := rel zs ws rz
  have hl : (gu ws).length = ps.length := r2.length.symm.trans (F.len _ _ _ _ q2)
  refine wpAny_call (codeAny_mono ((F.mono hk).run X.A X.stack s2 H2 ⟨[], ks.zip ws⟩ (gu ws) (gV zs) Q E hr I2.env0 (bt s2 ws hl) r2 q2) fun r s3 hq => ?_)
  cases r with
  | error e =>
    rcases hC with rfl | rfl
    · exact (show False from hq).elim
    · exact hx pins σ H2 s2 e s3 I2 hq
  | ok fl =>
    cases fl with
    | ret u => exact I2.after hq
    | next => exact hq.elim
    | brk => exact hq.elim
    | cont => exact hq.elim
theorem pe_kw (c : CalK X.prog X.w X.K X.mg X.base k x ks gV sp) (hr : Room j X.A) (hk : k ≤ j) (hg : Gl X x) (hkw : PK X kws tk)
    (hall : (backToKw pos (keywordEach kws X.env)).all (·.1.isSome) = true := by rfl) (hks : (backToKw pos (keywordEach kws X.env)).filterMap (·.1) = ks := by rfl) (hdb : (x == ("__debug__" : Str)) = false := by decide)
    (hpl : ((backTo pos (starEach [] X.env)).any (·.1) || (backToKw pos (keywordEach kws X.env)).any (·.1.isNone)) = false := by rfl) : PE X (.Call (.Name x p) [] kws pos) (tKw sp gV L2.E0 tk) := pe_kwE passL c hr hk hg hkw hall hks hdb hpl
end
/-- a def of the text, its name, how it binds -/
structure Df (K : PySem.W.Frag) (mg : Str → Option Value) (x : Str) (st : Stmt) (ps : List Str) : Prop where
  ex : ∃ f fd, Fun K x x st f fd ∧ mg x = some (.ref f) ∧ Binds K fd ps []
section
variable {P : Program} {w : World} {K : PySem.W.Frag} {mg : Str → Option Value} {base : Heap}
theorem cal_of {x : Str} {st : Stmt} {ps : List Str} {k : Nat} {sp : Sp} (D : Df K mg x st ps) (h : ∀ f fd, Fun K x x st f fd → FnOk P w K mg base CX0 k f fd ps sp) : Cal P w K mg base k x sp [] := by
  obtain ⟨f, fd, F, hm, b⟩ := D.ex
  exact ⟨f, fd, ps, [], h f fd F, hm, F.kp, b, .nil⟩
theorem calx_of {x : Str} {st : Stmt} {ps : List Str} {k : Nat} {sp : Sp} (D : Df K mg x st ps) (h : ∀ f fd, Fun K x x st f fd → FnOk P w K mg base (L2.CX P w) k f fd ps sp) : CalX P w K mg base k x sp := by
  obtain ⟨f, fd, F, hm, b⟩ := D.ex
  exact ⟨f, fd, ps, h f fd F, hm, F.kp, b⟩
end
/-! ### several clauses, each with the same name -/
abbrev Suite := Addr → Value → Option Addr → TS
/-- the ends behind a clause: its name is gone -/
def offName (i : Nat) (D : Ends) : Ends := { nx := fun σ H => D.nx (σ.set i none) H, rt := D.rt, bk := fun σ H => D.bk (σ.set i none) H, ct := fun σ H => D.ct (σ.set i none) H }
def wNamed (K : PySem.W.Frag) (i : Nat) (Wout : WX) (D : Ends) : List (Value × Suite) → WX
  | [] => Wout
  | z :: r => fun cls d σ H => ∃ b, PySem.W.exmOne K cls z.1 = some b ∧ (b = true → ∀ a, H a = none → i < σ.length → z.2 a cls d (offName i D) (σ.set i (some (.ref a))) H) ∧ (b = false → wNamed K i Wout D r cls d σ H)
inductive Clauses (X : Cx) (n : Str) : List ExceptHandler → List (Value × Suite) → Prop
  | nil : Clauses X n [] []
  | cons {x : Str} {c : Value} {ts : Suite} {b : Stmt} {bs : List Stmt} {p q : Pos} {hs : List ExceptHandler} {l : List (Value × Suite)} (nm : Names X x c)
      (su : ∀ (a : Addr) (oe : Obj) (cls : Value) (d : Option Addr) (pn : List (Addr × Obj)), Zc cls d oe → (∃ vs, oe.data = .fields vs) → PSs (X.suite a ((a, oe) :: pn)) (b :: bs) (ts a cls d)) (r : Clauses X n hs l) :
      Clauses X n (.ExceptHandler (some (.Name x p)) (some n) (b :: bs) q :: hs) ((c, ts) :: l)
section
variable {X : Cx} {pins : List (Addr × Obj)} {n : Str} {i : Nat} {Wout : WX} {D : Ends} {body : List Stmt} {tb : WX → TS} {pos : Pos}
/-- what flies has met no clause yet -/
theorem clauses_go (hs : X.stack = X.env :: X.outer) (hf : X.env.frame = some X.env.locals) (hN : X.N.Nodup) (hi : X.N[i]? = some n) (hl : X.env.kindOf n = some .local) (tk : L2.Takes X Wout)
    {a : Addr} {B : Heap} {cls : Value} {d : Option Addr} {σ : L2.St} {H : Hp} {s : Shared} {sI : Shared} (ok : X.Ok) (J : Inv X pins σ H sI) (nb : ∀ b o, sI.heap.get? b = some o → b ∉ frs X.stack → B.get? b = some o) (os : s.os = sI.os) (ag : AllBare s.gens) (na : H a = none)
    {h3 : Heap} (fl3 : HandSPX.FlyingZ B (X.env :: X.outer) a (Zc cls d) h3) (up3 : sI.heap.UpToSlots h3) : ∀ {hds : List ExceptHandler} {l : List (Value × Suite)}, Clauses X n hds l → wNamed X.K i Wout D l cls d σ H →
      wpAny (model X.prog X.w) X.A (handleBy (.ref a) X.env hds) (SP X pins D) X.xe { s with heap := h3 } := by
  have hfr : X.A.frames = some (X.env :: X.outer) := by rw [ok.frames, hs]
  have J3 : Inv X pins σ H { s with heap := h3 } := J.landed nb fl3.1 up3 os ag
  obtain ⟨oe, vs, he, hz, hd⟩ := id fl3.there
  have apart : a ∉ frs (X.env :: X.outer) := fun hm => by
    obtain ⟨_, o, e, hnf⟩ := fl3.2.2.1.mem hm
    rw [he] at e
    cases e
    exact hnf _ hd
  have nL : a ≠ X.env.locals := fun z => apart (List.mem_filterMap.mpr ⟨X.env, List.mem_cons_self, by rw [hf, z]⟩)
  have nF : a ∉ X.fs := fun hm => by
    obtain ⟨e, q1, q2⟩ := List.mem_filterMap.mp hm
    exact apart (List.mem_filterMap.mpr ⟨e, List.mem_cons_of_mem _ q1, q2⟩)
  have S3 := J3.suite he hd na nL nF
  have hlt : i < σ.length := by rw [J.len]; exact (List.getElem?_eq_some_iff.mp hi).1
  have LT : PySem.W.Looks (model X.prog X.w) h3 (typeOf (.ref a)) cls := fun A Q E s k q => wpAny_typeOf_ref (k _ _ he) (by rw [hz.1]; exact q)
  intro hds l C
  induction C with
  | nil =>
    intro w
    refine wpAny_handleBy_nil ?_
    obtain ⟨_, _, _, oe', vs', T, _, _, e1, _, e2, e3, _⟩ := id fl3
    unfold PySem.passOn
    refine wpAny_bind (wpAny_field e1 e2 e3 ?_)
    rw [if_neg (show ¬ ((Value.ref T == Value.none) = true) from by simp)]
    have fin : wpAny (model X.prog X.w) X.A (setFlight (.ref a) X.env.frame) (fun _ s4 => wpAny (model X.prog X.w) X.A (throw (.ref a) : Sem Flow) (SP X pins D) X.xe s4) X.xe { s with heap := h3 } := by
      rw [hf]
      exact HandSPX.setFlight_upZ fl3 fun h4 x4 up4 => wpAny_throw (tk _ _ ⟨a, B, sI, pins, σ, H, cls, d, rfl, J, nb, up3.trans up4, .inr (.inr (by rw [hs]; exact x4)), na, os, ag, w⟩)
    first
      | exact wpAny_bind (wpAny_pure (wpAny_bind fin))
      | exact wpAny_bind fin
  | @cons x c ts b0 bs p q hds' l' nm su r ih =>
    intro w
    obtain ⟨b, hb, yes, no⟩ := w
    refine wpAny_handleBy_cons (codeAny_handlers_test ?_) (by intro z; cases z)
    have LM := PySem.W.exm_one (M := model X.prog X.w) J3.kIn LT hb
    have test : ∀ {Q : Value → Shared → Prop} {E : Value → Shared → Prop}, Q c { s with heap := h3 } → wpAny (model X.prog X.w) (X.A.mark (some (.ref a))) (eval (.Name x p) X.env) Q E { s with heap := h3 } := fun {Q E} z => by
      obtain ⟨hg, hg2, hm | ⟨hm, hv, hnn⟩⟩ := nm
      · exact ld_glob (X := X.suite a ((a, oe) :: (X.pn ++ pins))) S3 hg hm z hg2
      · exact ld_blt (X := X.suite a ((a, oe) :: (X.pn ++ pins))) S3 hg hm hv z hnn hg2
    refine test (LM.here ?_)
    cases b with
    | false => exact ih (no rfl)
    | true =>
      refine codeAny_handlers_suite_as (HandSPX.lands_againZ fl3 fun h4 fl4 up4 => ?_)
      have J4 : Inv X pins σ H { s with heap := h4 } := J.landed nb fl4.1 (up3.trans up4) os ag
      obtain ⟨oe4, vs4, he4, hz4, hd4⟩ := fl4.there
      refine store_ok (X := X.suite a ((a, oe4) :: (X.pn ++ pins))) (v := .ref a) (J4.suite he4 hd4 na nL nF) hN hi (.inl hl) rfl (fun s5 S5 => ?_) (.inr hl)
      refine wpAny_mono ((su a oe4 cls d (X.pn ++ pins) hz4 ⟨_, hd4⟩).run [] s5 _ H _ S5 (yes rfl a na hlt)) (fun fl s6 z => ?_) (fun _ _ z => False.elim z)
      have off : ∀ {σ6 : L2.St} {H6 : Hp} {Q : Shared → Prop}, Inv (X.suite a ((a, oe4) :: (X.pn ++ pins))) [] σ6 H6 s6 → (∀ s7, Inv X pins (σ6.set i none) H6 s7 → Q s7) →
          wpAny (model X.prog X.w) X.A (do bindName X.env n .none; unbindBehindTheSuite X.env n q) (fun _ s7 => Q s7) X.xe s6 := fun {σ6 H6 Q} S6 k => gone_ok (S6.unsuite ok) hN hi hl k
      cases fl with
      | next =>
        obtain ⟨σ6, H6, S6, k⟩ := z
        exact off S6 fun s7 J7 => ⟨_, _, J7, k⟩
      | brk =>
        obtain ⟨σ6, H6, S6, k⟩ := z
        exact off S6 fun s7 J7 => ⟨_, _, J7, k⟩
      | cont =>
        obtain ⟨σ6, H6, S6, k⟩ := z
        exact off S6 fun s7 J7 => ⟨_, _, J7, k⟩
      | ret u =>
        obtain ⟨v6, σ6, H6, S6, r6, k⟩ := z
        exact off S6 fun s7 J7 => ⟨_, _, _, J7, r6, k⟩
theorem ps_try_named {h0 : ExceptHandler} {hds : List ExceptHandler} {l : List (Value × Suite)} (hs : X.stack = X.env :: X.outer) (hf : X.env.frame = some X.env.locals) (hN : X.N.Nodup) (hi : X.N[i]? = some n) (hl : X.env.kindOf n = some .local) (tk : L2.Takes X Wout)
    (hb : ∀ (W : WX) (pn : List (Addr × Obj)) (xe : Value → Shared → Prop), L2.Takes (X.tr pn xe) W → PassesOwn (model X.prog X.w) X.A X.env xe → PSs (X.tr pn xe) body (tb W))
    (C : Clauses X n (h0 :: hds) l) : PS X (.Try body (h0 :: hds) [] [] pos) (fun D σ H => tb (wNamed X.K i Wout D l) D σ H) := by
  refine ⟨fun pins s σ H D I h => ?_⟩
  have ok := I.ok
  have hfr : X.A.frames = some (X.env :: X.outer) := by rw [ok.frames, hs]
  refine wpAny_Try_except (wpAny_mono ((hb (wNamed X.K i Wout D l) (X.pn ++ pins) (fun e s₁ => wpAny (model X.prog X.w) X.A (noteFrame e X.env) (fun _ s₂ => wpAny (model X.prog X.w) X.A (setFlight e none) (fun _ s₃ =>
    wpAny (model X.prog X.w) X.A (handleBy e X.env (h0 :: hds)) (SP X pins D) X.xe s₃) X.xe s₂) X.xe s₁) (fun u s' xx => ?_) PassesOwn.looking).run [] s σ H D (I.toTry _) h) (fun f s1 z => ?_) (fun e s1 z => z))
  · obtain ⟨a, B, sI, pins', σ', H', cls, d, rfl, J', nb, up, sky, na, os, ag, w⟩ := xx
    refine Sky.land Zc.steady hfr hf (by rw [← hs]; exact sky) fun h3 fl3 up3 => ?_
    exact clauses_go hs hf hN hi hl tk ok (J'.ofTry ok) nb os ag na fl3 (up.trans up3) C w
  · cases f with
    | next =>
      obtain ⟨σ', H', J', q⟩ := z
      exact wpAny_execs_nil ⟨σ', H', J'.ofTry ok, q⟩
    | brk =>
      obtain ⟨σ', H', J', q⟩ := z
      exact ⟨σ', H', J'.ofTry ok, q⟩
    | cont =>
      obtain ⟨σ', H', J', q⟩ := z
      exact ⟨σ', H', J'.ofTry ok, q⟩
    | ret u =>
      obtain ⟨v, σ', H', J', r, q⟩ := z
      exact ⟨v, σ', H', J'.ofTry ok, r, q⟩
end
/-! ### the source of draws -/
def BoxAt (H : Hp) (b : Addr) : Prop := ∃ g m n : Int, H b = some (.lst [.int g, .int m, .int n])
theorem BoxAt.same {H H' : Hp} {b : Addr} (h : BoxAt H b) (s : Same H H') : BoxAt H' b := by
  obtain ⟨g, m, n, e⟩ := h
  exact ⟨g, m, n, s _ _ e⟩
/-- all but the source stays -/
def Keep (b : Addr) (H H' : Hp) : Prop := ∀ a o, H a = some o → a ≠ b → H' a = some o
theorem Keep.refl (b : Addr) (H : Hp) : Keep b H H := fun _ _ e _ => e
theorem Keep.trans {b : Addr} {H H1 H2 : Hp} (x : Keep b H H1) (y : Keep b H1 H2) : Keep b H H2 := fun a o e n => y a o (x a o e n) n
theorem Keep.of {b : Addr} {H H' : Hp} (s : Same H H') : Keep b H H' := fun a o e _ => s a o e
theorem Keep.at_ {b : Addr} {H : Hp} {o : HO} : Keep b H (upd H b o) := fun a x e n => by rw [upd_ne n]; exact e
theorem BoxAt.ne_of {H : Hp} {b p : Addr} (h : BoxAt H b) (n : H p = none) : p ≠ b := by
  obtain ⟨g, m, k, e⟩ := h
  exact (ne_of_none e n).symm
theorem BoxAt.ne_tup {H : Hp} {b p : Addr} {xs : List V} (h : BoxAt H b) (n : H p = some (.tup xs)) : p ≠ b := by
  obtain ⟨g, m, k, e⟩ := h
  exact Own.ne_of n e (by intro z; cases z)
theorem Keep.seq {K : PySem.W.Frag} {b a : Addr} {H H' : Hp} {xs : List V} (k : Keep b H H') (ne : a ≠ b) (h : SqL K H a xs) : SqL K H' a xs := by
  rcases h with (h | ⟨o, h⟩) | h
  · exact .inl (.inl (k _ _ h ne))
  · exact .inl (.inr ⟨o, k _ _ h ne⟩)
  · exact .inr h
/-- a def whose code object stands at c -/
structure FunC (K : PySem.W.Frag) (x qual : Str) (st : Stmt) (f : Addr) (fd : FuncData) (c : Addr) : Prop where
  ex : ∃ (oc : Value) (od : Option Addr) (kV doc pm : Value) (an : Option Addr) (ct : Value) (osl : Array (Option Value)),
    fd = PySem.W.fnOf x qual (defArgs st) (defBody st) (defScope st) .none kV doc pm an (.ref c) ct ∧ K.lookup f = some ⟨oc, od, .func fd, osl⟩ ∧ PySem.W.codeIn K (.ref c) qual = true
section
variable {P : Program} {w : World} {K : PySem.W.Frag} {mg : Str → Option Value} {base : Heap}
theorem FunC.ok {x qual : Str} {st : Stmt} {f c : Addr} {fd : FuncData} {N ps : List Str} {k : Nat} {sp : Sp} (F : FunC K x qual st f fd c) (S : FnScope N ps (defScope st)) (len : ∀ vs H Q E, sp vs H Q E → vs.length = ps.length)
    (hbody : ∀ (A : Around) (outer : List Env) (s : Shared) (H : Hp) (vs : List V) (Q : VK) (E : XK), Room k (A.deeper (envOfC qual (defScope st) s.heap.objs.size f (.ref c))) → sp vs H Q E →
      ∃ t, PSs (cxOf CX0 P w K mg base N qual (defScope st) f (.ref c) A outer s H E).nox (defBody st) t ∧ t { nx := fun _ H' => Q .non H', rt := Q } (L2.start N vs) H) : FnOk P w K mg base CX0 (k + 1) f fd ps sp := by
  obtain ⟨oc, od, kV, doc, pm, an, ct, osl, rfl, lk, hcd⟩ := F.ex
  refine fn_of lk hcd S len fun A outer s H vs Q E hr hsp => ?_
  obtain ⟨t, h, q⟩ := hbody A outer s H vs Q E hr hsp
  exact ⟨t, h.nox, q⟩
end
/-! ### the tables stay tables -/
def KeepN (b : Addr) (H H' : Hp) : Prop := ∀ a o, H a = some o → a ≠ b → (∀ ps, o ≠ .tbl ps) → H' a = some o
theorem KeepN.of_keep {b : Addr} {H H' : Hp} (k : Keep b H H') : KeepN b H H' := fun a o e n _ => k a o e n
theorem KeepN.of_ext {b : Addr} {H H' : Hp} (k : LamX.ExtN H H') : KeepN b H H' := fun a o e _ n => k a o e n
theorem KeepN.trans {b : Addr} {H H1 H2 : Hp} (x : KeepN b H H1) (y : KeepN b H1 H2) : KeepN b H H2 := fun a o e n m => y a o (x a o e n m) n m
theorem ext_of {H H' : Hp} (s : Same H H') : LamX.ExtN H H' := LamX.ExtN.of s
theorem ext_at {H0 H : Hp} {D : Addr} {o : HO} (s : LamX.ExtN H0 H) (n : H D = none) : LamX.ExtN H0 (upd H D o) := s.trans (ext_of (same_upd n))
theorem codeO_lst {c : Addr} {q : Str} {xs : List V} : LamX.CodeO c q ≠ .lst xs := fun z => by
  unfold LamX.CodeO at z
  cases z
theorem BoxAt.ext {H H' : Hp} {b : Addr} (h : BoxAt H b) (s : LamX.ExtN H H') : BoxAt H' b := by
  obtain ⟨g, m, n, e⟩ := h
  exact ⟨g, m, n, s _ _ e (fun ps z => by cases z)⟩
theorem tabs_keep {T : List (Addr × Str)} {b : Addr} {H H' : Hp} (t : LamX.Tabs T H) (x : BoxAt H b) (k : Keep b H H') : LamX.Tabs T H' := fun p hp => by
  obtain ⟨ps, h1, h2, h3⟩ := t p hp
  obtain ⟨g, m, n, e⟩ := x
  refine ⟨ps, k _ _ h1 (Own.ne_of h1 e (by intro z; cases z)), h2, fun pos cv hc => ?_⟩
  obtain ⟨c, e1, e2⟩ := h3 pos cv hc
  exact ⟨c, e1, k _ _ e2 (Own.ne_of e2 e codeO_lst)⟩
/-- new, as far as it is no table -/
def FreeN (H : Hp) (l : Addr) : Prop := ∀ o, H l = some o → ∃ ps, o = .tbl ps
theorem freeN_of {H H' : Hp} {l : Addr} (x : LamX.ExtN H H') (n : H' l = none) : FreeN H l := fun o e => by
  refine Classical.byContradiction fun h => ?_
  rw [x _ _ e (fun ps z => h ⟨ps, z⟩)] at n
  cases n
theorem ext_put {H H' : Hp} {l : Addr} {o : HO} (x : LamX.ExtN H H') (n : FreeN H l) : LamX.ExtN H (upd H' l o) := fun b u e h => by
  by_cases hb : b = l
  · subst hb
    obtain ⟨ps, z⟩ := n u e
    exact absurd z (h ps)
  · rw [upd_ne hb]; exact x _ _ e h
theorem tabs_put {T : List (Addr × Str)} {l : Addr} {H : Hp} {xs : List V} {o : HO} (t : LamX.Tabs T H) (e : H l = some (.lst xs)) : LamX.Tabs T (upd H l o) := fun p hp => by
  obtain ⟨ps, h1, h2, h3⟩ := t p hp
  refine ⟨ps, by rw [upd_ne (Own.ne_of h1 e (by intro z; cases z))]; exact h1, h2, fun pos cv hc => ?_⟩
  obtain ⟨c, e1, e2⟩ := h3 pos cv hc
  exact ⟨c, e1, by rw [upd_ne (Own.ne_of e2 e codeO_lst)]; exact e2⟩
theorem len1 {a : V} : [a].length ≤ sizeLine := by
  rw [sizeLine_eq]
  exact (by decide : 1 ≤ 16777216)
theorem len2 {a b : V} : [a, b].length ≤ sizeLine := by
  rw [sizeLine_eq]
  exact (by decide : 2 ≤ 16777216)
theorem len3 {a b c : V} : [a, b, c].length ≤ sizeLine := by
  rw [sizeLine_eq]
  exact (by decide : 3 ≤ 16777216)
theorem len4 {a b c d : V} : [a, b, c, d].length ≤ sizeLine := by
  rw [sizeLine_eq]
  exact (by decide : 4 ≤ 16777216)
theorem len5 {a b c d e : V} : [a, b, c, d, e].length ≤ sizeLine := by
  rw [sizeLine_eq]
  exact (by decide : 5 ≤ 16777216)
theorem len6 {a b c d e f : V} : [a, b, c, d, e, f].length ≤ sizeLine := by
  rw [sizeLine_eq]
  exact (by decide : 6 ≤ 16777216)
theorem nil_ok : ([] : List V).length ≤ sizeLine := Nat.zero_le _
theorem TyOf.same {K : PySem.W.Frag} {H H' : Hp} {x : V} {t : Value} (h : TyOf K H x t) (s : Same H H') : TyOf K H' x t := by
  cases h with
  | non => exact .non
  | bl b => exact .bl b
  | int i => exact .int i
  | str y => exact .str y
  | flt y => exact .flt y
  | lst e => exact .lst (s _ _ e)
  | frz e => exact .frz (s _ _ e)
  | tup e => exact .tup (s _ _ e)
  | dK e => exact .dK (s _ _ e)
  | dT e => exact .dT (s _ _ e)
  | ins e cl ha hn htk hm => exact .ins (s _ _ e) cl ha hn htk hm
theorem TyX.same {K : PySem.W.Frag} {H H' : Hp} {x : V} {t : Value} (h : TyX K H x t) (s : Same H H') : TyX K H' x t := by
  cases h with
  | base h => exact .base (TyOf.same h s)
  | byt b => exact .byt b
  | set e => exact .set (s _ _ e)
  | kList e c => exact .kList e c
  | kTuple e c => exact .kTuple e c
  | kDict e c => exact .kDict e c
  | fTuple e => exact .fTuple (s _ _ e)
  | fDict e => exact .fDict (s _ _ e)
theorem TyE.same {K : PySem.W.Frag} {H H' : Hp} {x : V} {t : Value} (h : TyE K H x t) (s : Same H H') : TyE K H' x t := by
  cases h with
  | base h => exact .base (TyX.same h s)
  | exc T e f => exact .exc T (s _ _ e) (s _ _ f)
theorem exo_lst {e C : Addr} {d : Option Addr} {xs : List V} : exo e C d ≠ .lst xs := fun z => by
  have z' : HO.ext _ = HO.lst xs := z
  cases z'
theorem exd_lst {e : Addr} {fs : List (Str × V)} {xs : List V} : exd e fs ≠ .lst xs := fun z => by
  have z' : HO.ext _ = HO.lst xs := z
  cases z'
theorem Keep.at_ne {b a : Addr} {H H' : Hp} {o : HO} (k : Keep b H H') (x : BoxAt H b) (e : H a = some o) (n : ∀ xs, o ≠ .lst xs) : H' a = some o := by
  obtain ⟨g, m, y, eb⟩ := x
  exact k _ _ e (Own.ne_of e eb (n _))
theorem TyOf.keep {K : PySem.W.Frag} {b : Addr} {H H' : Hp} {x : V} {t : Value} (h : TyOf K H x t) (hb : BoxAt H b) (hb' : BoxAt H' b) (s : Keep b H H') : TyOf K H' x t := by
  cases h with
  | non => exact .non
  | bl b => exact .bl b
  | int i => exact .int i
  | str y => exact .str y
  | flt y => exact .flt y
  | @lst a xs e =>
    by_cases c : a = b
    · subst c
      obtain ⟨g, m, n, e2⟩ := hb'
      exact .lst e2
    · exact .lst (s _ _ e c)
  | frz e => exact .frz (s.at_ne hb e (fun _ z => by cases z))
  | tup e => exact .tup (s.at_ne hb e (fun _ z => by cases z))
  | dK e => exact .dK (s.at_ne hb e (fun _ z => by cases z))
  | dT e => exact .dT (s.at_ne hb e (fun _ z => by cases z))
  | ins e cl ha hn htk hm => exact .ins (s.at_ne hb e (fun _ z => by cases z)) cl ha hn htk hm
theorem TyX.keep {K : PySem.W.Frag} {b : Addr} {H H' : Hp} {x : V} {t : Value} (h : TyX K H x t) (hb : BoxAt H b) (hb' : BoxAt H' b) (s : Keep b H H') : TyX K H' x t := by
  cases h with
  | base h => exact .base (TyOf.keep h hb hb' s)
  | byt b => exact .byt b
  | set e => exact .set (s.at_ne hb e (fun _ z => by cases z))
  | kList e c => exact .kList e c
  | kTuple e c => exact .kTuple e c
  | kDict e c => exact .kDict e c
  | fTuple e => exact .fTuple (s.at_ne hb e (fun _ z => by cases z))
  | fDict e => exact .fDict (s.at_ne hb e (fun _ z => by cases z))
theorem TyE.keep {K : PySem.W.Frag} {b : Addr} {H H' : Hp} {x : V} {t : Value} (h : TyE K H x t) (hb : BoxAt H b) (hb' : BoxAt H' b) (s : Keep b H H') : TyE K H' x t := by
  cases h with
  | base h => exact .base (TyX.keep h hb hb' s)
  | exc T e f => exact .exc T (s.at_ne hb e (fun _ => exo_lst)) (s.at_ne hb f (fun _ => exd_lst))
theorem seq_ext {K : PySem.W.Frag} {a : Addr} {H H' : Hp} {xs : List V} (x : LamX.ExtN H H') (h : SqL K H a xs) : SqL K H' a xs := by
  rcases h with (h | ⟨o, h⟩) | h
  · exact .inl (.inl (x _ _ h (fun ps z => by cases z)))
  · exact .inl (.inr ⟨o, x _ _ h (fun ps z => by cases z)⟩)
  · exact .inr h
theorem ext_keepN {b : Addr} {H H' : Hp} (k : KeepN b H H') (n : H b = none) : LamX.ExtN H H' := fun a o e m => k a o e (ne_of_none e n) m
theorem u65 {k : Nat} {A : Around} (hr : Room k A) : A.units + 65 < cLine := by have := hr.un; omega
open PySem.W (Frag findIn subIn typeIn keepIn)
open PySem.Calls
theorem sw2 {α : Type} {ws : List α} (h : (sw ws).length = 2) : ∃ a b, ws = [a, b] := by
  match ws, h with
  | [], h => cases h
  | [_], h => cases h
  | [a, b], _ => exact ⟨a, b, rfl⟩
  | _ :: _ :: _ :: _, h => cases h
theorem vals_sw : ∀ {zs : List V} {ws : List Value}, Vals zs ws → Vals (sw zs) (sw ws)
  | _, _, .nil => .nil
  | _, _, .cons _ .nil => .nil
  | _, _, .cons a (.cons b .nil) => .cons b (.cons a .nil)
  | _, _, .cons _ (.cons _ (.cons _ _)) => .nil
section
variable {P : Program} {w : World} {K : Frag} {mg : Str → Option Value} {base : Heap} {x p1 p2 : Str} {st : Stmt} {f : Addr} {fd : FuncData} {k : Nat} {sp : Sp} {CX : CXT}
theorem mkK2 (F : Fun K x x st f fd) (ok : FnOk P w K mg base CX k f fd [p1, p2] sp) (hC : CX = CX0 ∨ CX = L2.CX P w) (g : mg x = some (.ref f))
    (h : ∀ (kV doc pm : Value) (an : Option Addr) (cdv ct : Value) (a b : Value), bindArgs (PySem.W.fnOf x x (defArgs st) (defBody st) (defScope st) .none kV doc pm an cdv ct) ⟨[], [p2, p1].zip [a, b]⟩ = pure ([p1, p2].zip [b, a])) : CalK P w K mg base k x [p2, p1] sw sp := by
  have kp := F.kp
  obtain ⟨oc, od, kV, doc, pm, an, cdv, ct, osl, rfl, lk, hc⟩ := F.ex
  refine ⟨⟨f, _, [p1, p2], sw, CX, hC, ok, g, kp, fun s ws hl => ?_, fun _ _ r => vals_sw r⟩⟩
  obtain ⟨a, b, rfl⟩ := sw2 hl
  exact .of_eq (h kV doc pm an cdv ct a b)
theorem mkK1 (F : Fun K x x st f fd) (ok : FnOk P w K mg base CX k f fd [p1] sp) (hC : CX = CX0 ∨ CX = L2.CX P w) (g : mg x = some (.ref f))
    (h : ∀ (kV doc pm : Value) (an : Option Addr) (cdv ct : Value) (a : Value), bindArgs (PySem.W.fnOf x x (defArgs st) (defBody st) (defScope st) .none kV doc pm an cdv ct) ⟨[], [p1].zip [a]⟩ = pure ([p1].zip [a])) : CalK P w K mg base k x [p1] id sp := by
  have kp := F.kp
  obtain ⟨oc, od, kV, doc, pm, an, cdv, ct, osl, rfl, lk, hc⟩ := F.ex
  refine ⟨⟨f, _, [p1], id, CX, hC, ok, g, kp, fun s ws hl => ?_, fun _ _ r => r⟩⟩
  match ws, hl with
  | [a], _ => exact .of_eq (h kV doc pm an cdv ct a)
end
/-- an own error's class -/
def oexB (K : Frag) (C : Addr) : Bool := (match K.lookup C with
  | some ⟨.type t, _, .cls cd, sl⟩ => decide (t = "type") && (match cd.mro, sl.toList with
    | .ref C' :: bm, [_, _, _, _, some (.builtin n), _] => decide (C' = C) && (decide (n = "ValueError.__new__") && (!cd.hasDel && (cd.hasDict && HandSPX.refsVE bm)))
    | _, _ => false)
  | _ => false) && (He.eqO (findIn K (.ref C) "__setattr__") (some (some (.builtin "object.__setattr__"))) && (decide (subIn K (.ref C) (.type "BaseException") = some true) && (decide (typeIn K (.ref C) = some (.type "type")) && keepIn K (.ref C))))
theorem oexB_ok {K : Frag} {C : Addr} (h : oexB K C = true) : OexC K C := by
  obtain ⟨h1, h⟩ := He.ba h
  obtain ⟨h2, h⟩ := He.ba h
  obtain ⟨h3, h⟩ := He.ba h
  obtain ⟨h4, h5⟩ := He.ba h
  refine ⟨?_, He.eqO_ok h2, of_decide_eq_true h3, of_decide_eq_true h4, h5⟩
  clear h2 h3 h4 h5 h
  cases q : K.lookup C with
  | none => rw [q] at h1; cases h1
  | some o =>
    obtain ⟨oc, dd, dt, sl⟩ := o
    rw [q] at h1
    cases oc with
    | type t =>
      cases dt with
      | cls cd =>
        obtain ⟨nm, bases, mro, ns, qn, hd, sn, sb, ab, col, del⟩ := cd
        obtain ⟨a1, a2⟩ := He.ba h1
        obtain rfl := of_decide_eq_true a1
        clear h1 a1
        cases mro with
        | nil => cases a2
        | cons m bm =>
          cases m with
          | ref C' =>
            obtain ⟨sll⟩ := sl
            match sll, a2 with
            | [k0, k1, k2, k3, some (.builtin n), k5], a2 =>
              obtain ⟨b1, b⟩ := He.ba a2
              obtain ⟨b2, b⟩ := He.ba b
              obtain ⟨b3, b⟩ := He.ba b
              obtain ⟨b4, b5⟩ := He.ba b
              obtain rfl := of_decide_eq_true b1
              obtain rfl := of_decide_eq_true b2
              have e3 : del = false := by simpa using b3
              have e4 : hd = true := b4
              subst e3 e4
              exact ⟨nm, qn, ns, bases, bm, sn, sb, ab, col, dd, k0, k1, k2, k3, k5, rfl, b5⟩
          | _ => cases a2
      | _ => cases h1
    | _ => cases dt <;> cases h1
def clsB (K : Frag) (x : Str) : Bool := oexB K (He.ga K x) && (He.eqO (findIn K (.ref (He.ga K x)) "__init__") (some (some (.ref (He.ma K (He.ga K x) "__init__")))) && (decide (typeIn K (.ref (He.ma K (He.ga K x) "__init__")) = some (.type "function")) && (xfB K (He.ga K x) && He.eqO (findIn K (.ref (He.ga K x)) "word") (some none))))
theorem clsB_ok {K : Frag} {mg : Str → Option Value} {x : Str} (h : clsB K x = true) (g : mg x = some (.ref (He.ga K x))) : ExT K mg x (He.ga K x) (He.ma K (He.ga K x) "__init__") := by
  obtain ⟨h1, h⟩ := He.ba h
  obtain ⟨h2, h⟩ := He.ba h
  obtain ⟨h3, h⟩ := He.ba h
  obtain ⟨h4, h5⟩ := He.ba h
  exact ⟨oexB_ok h1, He.eqO_ok h2, of_decide_eq_true h3, g, xfB_ok h4, He.eqO_ok h5⟩
section
variable {K : Frag}
theorem funOf {x : Str} {st : Stmt} {f : Addr} {fd : FuncData} {qual : Str} (F : FunD K x qual (defArgs st) (defBody st) (defScope st) [] [] f fd) : Fun K x qual st f fd := by
  obtain ⟨oc, od, dV, kV, doc, pm, an, cdv, ct, osl, e, lk, hc, hd, hk⟩ := F.ex
  rcases hd with ⟨_, h⟩ | ⟨h, _⟩
  · subst h
    exact ⟨⟨oc, od, kV, doc, pm, an, cdv, ct, osl, e, lk, hc⟩, F.kp⟩
  · exact absurd rfl h
theorem funCOf {x : Str} {st : Stmt} {p : He.Defn} {fd : FuncData} {qual : Str} (F : Fun K x qual st (He.fAd K p) fd) : FunC K x qual st (He.fAd K p) fd (He.cT K p).1 := by
  obtain ⟨oc, od, kV, doc, pm, an, cdv, ct, osl, e, lk, hc⟩ := F.ex
  obtain ⟨c, rfl⟩ := He.codeIn_ref hc
  have e2 : He.codeOf K p = c := He.codeOf_eq lk (by rw [e])
  have e3 : (He.cT K p).1 = c := e2
  rw [e3]
  exact ⟨⟨oc, od, kV, doc, pm, an, ct, osl, e, lk, hc⟩⟩
end
end Own

/-! Defs that show data by repr: what is under way in C must be known where they are called (A.guards = some []), which the layer's promises leave open. A promise under that premise, its call, repr of data, the law's end. -/
namespace Gd
open PySem PySem.Spec PyProof.Rows L2
theorem deeper_guards {A : Around} {env : Env} (h : A.guards = some []) : (A.deeper env).guards = some [] := h
/-- a def that keeps sp where nothing is under way -/
structure FnG (P : Program) (w : World) (K : PySem.W.Frag) (mg : Str → Option Value) (base : Heap) (CX : CXT) (k : Nat) (f : Addr) (fd : FuncData) (ps : List Str) (sp : Sp) : Prop where
  len : ∀ vs H Q E, sp vs H Q E → vs.length = ps.length
  run : ∀ (A : Around) (outer : List Env) (s : Shared) (H : Hp) (args : Args) (us : List Value) (vs : List V) (Q : VK) (E : XK), A.guards = some [] → Room k A → Env0 P w K mg base A outer s H → BindsTo s fd args (ps.zip us) → Vals vs us → sp vs H Q E →
    codeAny (model P w) A (.call (.ref f) args) (CR CX outer P w H s Q E) s
section
variable {P : Program} {w : World} {K : PySem.W.Frag} {mg : Str → Option Value} {base : Heap}
theorem FnG.mono {CX : CXT} {j k : Nat} {f : Addr} {fd : FuncData} {ps : List Str} {sp : Sp} (F : FnG P w K mg base CX j f fd ps sp) (h : j ≤ k) : FnG P w K mg base CX k f fd ps sp :=
  ⟨F.len, fun A outer s H args us vs Q E g hr => F.run A outer s H args us vs Q E g (hr.mono h)⟩
/-- a def by its body, the guards known within -/
theorem fun_okG {x qual : Str} {st : Stmt} {f : Addr} {fd : FuncData} {N ps : List Str} {k : Nat} {sp : Sp} (F : Fun K x qual st f fd) (S : FnScope N ps (defScope st)) (len : ∀ vs H Q E, sp vs H Q E → vs.length = ps.length)
    (hbody : ∀ (cdv : Value) (A : Around) (outer : List Env) (s : Shared) (H : Hp) (vs : List V) (Q : VK) (E : XK), (A.deeper (envOfC qual (defScope st) s.heap.objs.size f cdv)).guards = some [] → Room k (A.deeper (envOfC qual (defScope st) s.heap.objs.size f cdv)) → sp vs H Q E →
      ∃ t, PSs (cxOf CX0 P w K mg base N qual (defScope st) f cdv A outer s H E).nox (defBody st) t ∧ t { nx := fun _ H' => Q .non H', rt := Q } (L2.start N vs) H) : FnG P w K mg base CX0 (k + 1) f fd ps sp := by
  obtain ⟨oc, od, kV, doc, pm, an, cdv, ct, osl, rfl, lk, hcd⟩ := F.ex
  refine ⟨len, fun A outer s H args us vs Q E g hr e0 hb r hsp => ?_⟩
  refine LamX.run_ofS lk hcd S hr e0 hb r (len _ _ _ _ hsp) fun hr' => ?_
  obtain ⟨t, h, q⟩ := hbody cdv A outer s H vs Q E (deeper_guards g) hr' hsp
  exact ⟨t, h.nox, q⟩
/-- such a def by its name -/
structure CalG (P : Program) (w : World) (K : PySem.W.Frag) (mg : Str → Option Value) (base : Heap) (k : Nat) (x : Str) (sp : Sp) : Prop where
  ex : ∃ (f : Addr) (fd : FuncData) (ps : List Str), FnG P w K mg base CX0 k f fd ps sp ∧ mg x = some (.ref f) ∧ PySem.W.keepIn K (.ref f) = true ∧ Binds K fd ps []
end
section
variable {X : Cx} {k j : Nat} {x : Str} {sp : Sp} {e : Expr} {es : List Expr} {t : TA} {p pos : Pos}
theorem pe_cG (hgd : X.A.guards = some []) (c : CalG X.prog X.w X.K X.mg X.base k x sp) (hr : Room j X.A) (hk : k ≤ j) (hg : Gl X x) (ha : PA X (e :: es) t)
    (hdb : (x == ("__debug__" : Str)) = false := by decide) (he : starEach (e :: es) X.env = (false, eval e X.env) :: starEach es X.env := by rfl) (hpl : (backTo pos (starEach es X.env)).any (·.1) = false := by rfl) :
    PE X (.Call (.Name x p) (e :: es) [] pos) (tCall sp [] L2.E0 t) := by
  obtain ⟨f, fd, ps, F, hm, kp, b⟩ := c.ex
  refine ⟨fun pins s σ H Q I h => ?_⟩
  refine wpAny_Call_Name_kw (ld_glob I hg hm ?_ hdb)
  refine PySem.W.callWith_K (h₀ := X.base) I.ok.mod.kin kp (thn (ha.run pos pins s σ H _ I h) fun us s1 hz => ?_) he hpl
  obtain ⟨vs, H1, I1, r, q⟩ := hz
  have q : sp (vs ++ []) H1 Q L2.E0 := q
  rw [List.append_nil] at q
  have hl : us.length = ps.length := r.length.symm.trans (F.len _ _ _ _ q)
  refine ⟨I1.kIn, wpAny_call (codeAny_mono ((F.mono hk).run X.A X.stack s1 H1 ⟨us, []⟩ us vs Q L2.E0 hgd hr I1.env0 ?_ r q) fun r3 s3 hq => ?_)⟩
  · have := b s1 us I1.kIn (by rw [List.append_nil]; exact hl)
    rw [List.append_nil] at this
    exact this
  · cases r3 with
    | error e => exact (show False from hq).elim
    | ok fl =>
      cases fl with
      | ret u => exact I1.after hq
      | next => exact hq.elim
      | brk => exact hq.elim
      | cont => exact hq.elim
/-- repr of a tuple, a list of data -/
def rShow (K : PySem.W.Frag) : List V → Hp → VK → Prop := fun xs H Q => ∃ (a : Addr) (d : PyData), xs = [.ref a] ∧ Dp K H (.ref a) d ∧ d.showable = true ∧ d.hasDict = false ∧ d.depth ≤ 60 ∧ d.shown.length ≤ sizeLine ∧ Q (.str d.shown) H
theorem call_show (hgd : X.A.guards = some []) (hu : X.A.units + 64 < cLine) : CallR X (.builtin "repr") (rShow X.K) := by
  intro pins s σ H xs us Q I r h
  obtain ⟨a, d, rfl, hd, hs, hn, hp, hz, q⟩ := h
  obtain ⟨u, rfl, r1⟩ := vals1 r
  cases (show u = Value.ref a from r1)
  obtain ⟨as, rd⟩ := Dp.reads I d (.ref a) (.ref a) hd rfl
  refine repr_of_reads' rd hs (fun e => by rw [hn] at e; cases e) hgd (by omega) (fun _ _ e => e) (fun h' u tk hk => ?_) hz
  exact ⟨.str d.shown, H, I.kept (t' := tk) hk, ⟨u, rfl⟩, q⟩
end
end Gd

namespace Gd
open PySem PySem.Spec PyProof.Rows L2
theorem tuple_mul1 (l : Addr) (items : Array Value) (n : Nat) (dd : Option Addr) (sl : Array (Option Value)) (u : Tok) (hne : items.isEmpty = false) :
    Meets (Builtin.«tuple.__mul__» ⟨[.ref l, .int 1 u], []⟩) (fun _ R s => s.heap.get? l = some { cls := .type "tuple", dict := dd, data := .seq items n, slots := sl } ∧ R (.ok (.ret (Value.ref l))) s) :=
  .of_wp fun prog w A R s h => by
    obtain ⟨hp, g, d, tk, os⟩ := s
    obtain ⟨hl, h⟩ := h
    have f1 := AutoSeq1.idx_int
    have c1 : (items.isEmpty || (1 : Int) == 1) = true := by simp
    wp_walk using wpAny_loadPart' hl
    repeat (first
      | (refine wpAny_ite_true (by simp) ?_; wp_walk using wpAny_loadPart' hl)
      | (refine wpAny_ite_false (by simp) ?_; wp_walk using wpAny_loadPart' hl))
    exact ⟨_, rfl, h⟩
theorem tuple_mul0 (l : Addr) (items : Array Value) (n : Nat) (dd : Option Addr) (sl : Array (Option Value)) (u : Tok) (hne : items.isEmpty = false) :
    Meets (Builtin.«tuple.__mul__» ⟨[.ref l, .int 0 u], []⟩) (fun _ R s => s.heap.get? l = some { cls := .type "tuple", dict := dd, data := .seq items n, slots := sl } ∧ R (.ok (.ret (Value.ref s.heap.objs.size))) { s with heap := s.heap.push { cls := Value.type "tuple", data := Data.seq #[] }, toks := s.toks }) :=
  .of_wp fun prog w A R s h => by
    obtain ⟨hp, g, d, tk, os⟩ := s
    obtain ⟨hl, h⟩ := h
    have f1 := AutoSeq1.idx_int
    wp_walk using wpAny_loadPart' hl
    repeat (first
      | (refine wpAny_ite_false (by simp [hne]) ?_; wp_walk using wpAny_loadPart' hl)
      | (refine wpAny_ite_true (by simp) ?_; wp_walk using wpAny_loadPart' hl))
    exact ⟨_, rfl, h⟩
/-- a tuple of one or more items, times 0 and more -/
def rRepA (K : PySem.W.Frag) : R2 := fun x y H Q => ∃ l k xs, x = .ref l ∧ y = .int k ∧ SqT K H l xs ∧ xs ≠ [] ∧ 0 ≤ k ∧ k ≤ 1000 ∧ xs.length ≤ 1000 ∧ (k = 1 → Q (.ref l) H) ∧ (k ≠ 1 → ∀ p, H p = none → Q (.ref p) (upd H p (.tup (List.replicate k.toNat xs).flatten)))
theorem op_repA {X : Cx} : OpR X (binaryOp .Mult) (rRepA X.K) := by
  intro pins s σ H x y v u Q I rx ry h
  obtain ⟨l, k, xs, rfl, rfl, hT, hne, h1, h2, hz, q1, q2⟩ := h
  by_cases hk : 2 ≤ k
  · exact op_repT pins s σ H _ _ v u Q I rx ry ⟨l, k, xs, rfl, rfl, hT, hne, hk, h2, hz, q2 (by omega)⟩
  cases rx
  obtain ⟨t, rfl⟩ := ry
  obtain ⟨its, r, ⟨⟨cls, dd, data, sl⟩, ho, hc, n, hd⟩, hs⟩ := I.tuple hT
  simp only at hc hd
  subst hc hd
  have hn : its ≠ [] := fun e => hne (by
    have hle : its.length = xs.length := r.length.symm
    rw [e] at hle
    exact List.eq_nil_of_length_eq_zero hle.symm)
  have hi : its.toArray.isEmpty = false := by
    cases its with
    | nil => exact absurd rfl hn
    | cons a b => rfl
  have h01 : k = 1 ∨ k = 0 := by omega
  rcases h01 with rfl | rfl
  · refine wpAny_binaryOp_repeat_ref (T := "tuple") (U := "int") (by decide) ⟨_, ho, rfl⟩ (fun s' => typeIs_int s' 1 t) noFill_tuple_mul F.fills_int_mul F.slot_int_rmul repeat_tuple F.slot_int_index.lookup
      (call_meets F.slot_int_rmul (typeIs_int s 1 t) F.entry_int_rmul (F.args_int_rmul_2 _ _) (int_rmul_tuple 1 t l its.toArray n dd sl)
        ⟨ho, rfl, ⟨_, ho, rfl⟩, call_meets F.slot_tuple_mul ⟨_, ho, rfl⟩ F.entry_tuple_mul (F.args_tuple_mul_2 _ _) (tuple_mul1 l its.toArray n dd sl t hi) ⟨ho, ?_⟩⟩)
    exact ⟨.ref l, H, I, rfl, q1 rfl⟩
  · refine wpAny_binaryOp_repeat_ref (T := "tuple") (U := "int") (by decide) ⟨_, ho, rfl⟩ (fun s' => typeIs_int s' 0 t) noFill_tuple_mul F.fills_int_mul F.slot_int_rmul repeat_tuple F.slot_int_index.lookup
      (call_meets F.slot_int_rmul (typeIs_int s 0 t) F.entry_int_rmul (F.args_int_rmul_2 _ _) (int_rmul_tuple 0 t l its.toArray n dd sl)
        ⟨ho, rfl, ⟨_, ho, rfl⟩, call_meets F.slot_tuple_mul ⟨_, ho, rfl⟩ F.entry_tuple_mul (F.args_tuple_mul_2 _ _) (tuple_mul0 l its.toArray n dd sl t hi) ⟨ho, ?_⟩⟩)
    refine ⟨.ref s.heap.objs.size, _, I.laid (t' := s.toks) (o := .tup []) (fun b ob q => Heap.get?_push_of_some _ q) (Nat.le_refl _) ?_, rfl, q2 (by decide) _ (I.hok.fresh (Nat.le_refl _))⟩
    exact ⟨Nat.zero_le _, [], .nil, IsTup.new _ _⟩
end Gd

/-! enumerate of a tuple, a loop over a list or a tuple, math.lcm. -/
namespace Gd
open PySem PySem.Spec PyProof.Rows L2
/-- the new enumerate object over what v begins as -/
abbrev enO (h : Heap) : Obj := { cls := .type "enumerate", data := .fields #[.none, .bool false, .ref h.objs.size, rawInt 0, .none, .none] }
theorem enB_new {v : Value} {o : Obj} {H : Heap → Prop} (B : Begins v o H) :
    Meets (Builtin.«enumerate.__new__» ⟨[.type "enumerate", v], []⟩) (fun _ R s => H s.heap ∧ R (.ok (.ret (.ref (s.heap.push o).objs.size))) { s with heap := (s.heap.push o).push (enO s.heap) }) :=
  .of_wp fun P W A R s z => by
    obtain ⟨hp, g, d, tk, os⟩ := s
    obtain ⟨hB, q⟩ := z
    have sb := sub_enumerate
    have begin : ∀ {A2 : Around} {E : Value → Shared → Prop} {Q : Value → Shared → Prop}, Q (.ref hp.objs.size) ⟨hp.push o, g, d, tk, os⟩ → wpAny (model P W) A2 (pyIter v) Q E ⟨hp, g, d, tk, os⟩ :=
      fun y => B.iter P W _ _ ⟨hp, g, d, tk, os⟩ _ hB y
    wp_walk using begin
    refine wpAny_stack_any fun stk => wpAny_pure ?_
    split
    all_goals first
      | (wp_walk using begin; exact ⟨_, rfl, q⟩)
      | (rename_i c _ _ _ _ _
         cases (c == Value.type "enumerate") <;> (wp_walk using begin; exact ⟨_, rfl, q⟩))
theorem call_enB {P : Program} {w : World} {A : Around} {E : Value → Shared → Prop} {s : Shared} {v : Value} {o : Obj} {H : Heap → Prop} {Q : Value → Shared → Prop} (B : Begins v o H) (hB : H s.heap)
    (q : ∀ h', IsEnum h' (s.heap.objs.size + 1) s.heap.objs.size 0 .none → h'.get? s.heap.objs.size = some o → (∀ b x, s.heap.get? b = some x → h'.get? b = some x) → Q (.ref (s.heap.objs.size + 1)) { s with heap := h' }) :
    wpAny (model P w) A (call (.type "enumerate") [v]) Q E s := by
  refine callType_new F.called_enumerate (by decide) (F.typeCall_enumerate_1 _) (F.newCall_enumerate_1 _) (fun obj => F.args_object_init_2 obj _) F.entry_enumerate_new (enB_new B) ⟨hB, ?_⟩
  have sz : (s.heap.push o).objs.size = s.heap.objs.size + 1 := Heap.size_push ..
  have isE : IsEnum ((s.heap.push o).push (enO s.heap)) (s.heap.push o).objs.size s.heap.objs.size 0 .none := Heap.get?_push_size _ rfl
  have q2 := q ((s.heap.push o).push (enO s.heap)) (by rw [← sz]; exact isE) (Heap.get?_push_of_some _ (Heap.get?_push_size _ B.free)) fun b x e => Heap.get?_push_of_some _ (Heap.get?_push_of_some _ e)
  rw [← sz] at q2
  exact ⟨⟨_, isE, rfl⟩, q2⟩
/-- the tuple at a as it stands at each turn, each item in a new pair -/
def ItE (K : PySem.W.Frag) (a : Addr) : It :=
  ⟨fun i H => ∃ (xs : List V) (x : V), SqT K H a xs ∧ xs[i]? = some x, fun i H v H' => ∃ T x, v = .ref T ∧ H T = none ∧ H' = upd H T (.tup [.int (i : Nat), x]) ∧ ∀ xs, SqT K H a xs → xs[i]? = some x, fun i H => ∃ xs : List V, SqT K H a xs ∧ xs.length = i⟩
theorem turn_enT {P : Program} {w : World} {K : PySem.W.Frag} {elts : List Expr} {kk : Nat} {tpos : Pos} (a e it : Addr) :
    Turn P w K (.Tuple elts kk tpos) (ItE K a) [e, it] e (fun i h => (∃ old, IsEnum h e it ((i : Nat) : Int) old) ∧ h.IsTupleIter it a i ∧ e ≠ it) where
  mem := List.mem_cons_self ..
  obj := fun i h st b hb => by
    obtain ⟨⟨old, hE⟩, ⟨o, ho, hc, hd⟩, _⟩ := st
    rcases List.mem_cons.mp hb with rfl | hb
    · exact ⟨_, hE, fun v q => nomatch q⟩
    · obtain rfl := List.mem_singleton.mp hb
      exact ⟨o, ho, fun v q => by rw [hd] at q; cases q⟩
  keep := fun i h h' st k => by
    obtain ⟨⟨old, hE⟩, hI, ne⟩ := st
    exact ⟨⟨old, k _ (List.mem_cons_self ..) _ hE⟩, hI.at fun o q => k _ (List.mem_cons_of_mem _ (List.mem_cons_self ..)) o q, ne⟩
  item := by
    intro X hP hw hK hc i pins s σ H E I fps st gg
    subst hP hw hK
    obtain ⟨⟨old, hE⟩, hI, ne⟩ := st
    obtain ⟨xs, x, hq, hx⟩ := gg
    obtain ⟨its, rv, pT, hz⟩ := I.tuple hq
    have pT : s.heap.IsTuple a its.toArray := pT
    obtain ⟨u, hu, ru⟩ := rv.get hx
    have ln := rv.length
    have li : i < its.length := by
      rw [← ln]
      exact (List.getElem?_eq_some_iff.mp hx).1
    obtain ⟨oa, ea, ca, na, da⟩ := id pT
    obtain ⟨oi, ei, ci, di⟩ := id hI
    have ae : e ≠ a := fun z => by
      have y : s.heap.get? a = some _ := z ▸ hE
      rw [ea] at y
      cases y
      cases da
    have ai : a ≠ it := fun z => by
      rw [z, ei] at ea
      cases ea
      rw [di] at da
      cases da
    have D := Draws.tuple (prog := X.prog) (w := X.w) (A := X.A.in1) (I.ok.hd hc) it a ai its.toArray
    have le : e < s.heap.objs.size := Heap.lt_size hE
    have lt : it < s.heap.objs.size := Heap.lt_size ei
    refine wpAny_pyNext_enum_itemD D hE ⟨hI, pT⟩ (by simpa using li) ne (by simp only [List.mem_cons, List.not_mem_nil, or_false, not_or]; exact ⟨ne, ae⟩) fun y h1 tk hy out st1 new _ kp => ?_
    obtain rfl : u = y := Option.some.inj ((by simpa using hu : its.toArray[i]? = some u).symm.trans hy)
    refine ⟨_, rfl, wpAny_letOwnedTupleGo_enum (s := { s with heap := h1, toks := tk + 1 }) out fun h2 in2 sb => ?_⟩
    have new2 : h2.get? s.heap.objs.size = some { cls := .type "tuple", data := .seq #[.int i tk, u] } := (sb.2 _ (Nat.ne_of_gt le)).trans new
    have fresh := I.hok.fresh (Nat.le_refl s.heap.objs.size)
    have pair : ObjOk X.prog X.w (upd H s.heap.objs.size (.tup [.int (i : Nat), x])) h2 s.heap.objs.size (.tup [.int (i : Nat), x]) :=
      ⟨show 2 ≤ sizeLine by decide, [.int i tk, u], .cons ⟨_, rfl⟩ (.cons ru .nil), ⟨_, new2, rfl, _, rfl⟩⟩
    have I2 : Inv X pins σ (upd H s.heap.objs.size (.tup [.int (i : Nat), x])) { s with heap := h2, toks := tk + 1 } :=
      I.turnedNew (ch := [e, it]) (fun b ob nb q => by
        have n1 : b ≠ e := fun z => nb (z ▸ List.mem_cons_self ..)
        have n2 : b ≠ it := fun z => nb (z ▸ List.mem_cons_of_mem _ (List.mem_cons_self ..))
        exact (sb.2 b n1).trans (kp b ob n1 n2 q)) fps (Nat.le_refl _) pair
    refine ⟨.ref s.heap.objs.size, _, I2, rfl, ⟨_, x, rfl, fresh, rfl, fun ys hy => by rw [I.tuple_inj hy hq]; exact hx⟩, ⟨⟨u, by rw [Int.natCast_succ]; exact in2⟩, st1.1.at fun o q => (sb.2 it (Ne.symm ne)).trans q, ne⟩, fun b hb => ?_⟩
    have lb : b < s.heap.objs.size := by
      rcases List.mem_cons.mp hb with rfl | h
      · exact le
      · rw [List.mem_singleton.mp h]; exact lt
    rw [upd_ne (Nat.ne_of_lt lb)]
    exact (fps b hb).1
  done := by
    intro X hP hw hK hc i pins s σ H E I fps st gg
    subst hP hw hK
    obtain ⟨⟨old, hE⟩, hI, ne⟩ := st
    obtain ⟨xs, hq, hx⟩ := gg
    obtain ⟨its, rv, pT, hz⟩ := I.tuple hq
    have pT : s.heap.IsTuple a its.toArray := pT
    obtain ⟨oa, ea, ca, na, da⟩ := id pT
    obtain ⟨oi, ei, ci, di⟩ := id hI
    have ai : a ≠ it := fun z => by
      rw [z, ei] at ea
      cases ea
      rw [di] at da
      cases da
    have D := Draws.tuple (prog := X.prog) (w := X.w) (A := X.A.in1) (I.ok.hd hc) it a ai its.toArray
    have ln := rv.length
    have en : i = its.toArray.size := by rw [List.size_toArray, ← ln, hx]
    obtain ⟨f0, f1, f2, f3, f4, f5⟩ := fps it (List.mem_cons_of_mem _ (List.mem_cons_self ..))
    exact wpAny_pyNext_enum_endD D hE ⟨en ▸ hI, pT⟩ fun h1 eb => ⟨rfl, I.turned (t' := s.toks) (fun b o hb q => eb b o hb q) f0 f1 f3 f4 f5⟩
  self := fun A i s Q E st h => let ⟨⟨_, hE⟩, _⟩ := st; wpAny_pyIter_enum hE h
def iEnT (K : PySem.W.Frag) (ta : TA) : TI := fun σ H R => ta σ H fun vs H1 => ∃ a xs, vs = [.ref a] ∧ SqT K H1 a xs ∧ R (ItE K a) H1
theorem pi_enT {X : Cx} {e : Expr} {ta : TA} {p pos tpos : Pos} {elts : List Expr} {kk : Nat} (hg : Gl X "enumerate") (hm : X.mg "enumerate" = none) (ha : PA X [e] ta) (hs : starEach [e] X.env = [(false, eval e X.env)] := by rfl) :
    PI X (.Tuple elts kk tpos) (.Call (.Name "enumerate" p) [e] [] pos) (iEnT X.K ta) := by
  refine ⟨fun pins s σ H R I h => ?_⟩
  refine Call_ (ld_blt I hg hm boot_enumerate (PyProof.Rows.callWith_type1 (thn (ha.run pos pins s σ H _ I h) fun us s1 ⟨vs, H1, I1, r1, a, xs, ev, hq, q⟩ => ?_) hs rfl))
  subst ev
  obtain ⟨u, rfl, r⟩ := vals1 r1
  cases r
  obtain ⟨its, rv, pT, hz⟩ := I1.tuple hq
  have pT : s1.heap.IsTuple a its.toArray := pT
  refine call_enB (begins_tuple a its.toArray) pT fun h1 isE itO kp => wpAny_pyIter_enum isE ?_
  refine ⟨s1.heap.objs.size + 1, [s1.heap.objs.size + 1, s1.heap.objs.size], _, _, H1, rfl, I1.kept (t' := s1.toks) kp, turn_enT a _ _, ⟨⟨.none, isE⟩, ⟨_, itO, rfl, rfl⟩, Nat.succ_ne_self _⟩, fun b hb => ?_, q⟩
  have le : s1.heap.objs.size ≤ b := by
    rcases List.mem_cons.mp hb with rfl | h
    · exact Nat.le_succ _
    · rw [List.mem_singleton.mp h]; exact Nat.le_refl _
  exact I1.fpOk le (I1.hok.fresh le)
/-- such a loop, by one word a turn -/
theorem for_enT {K : PySem.W.Frag} {a : Addr} {xs : List V} {g : TG} {tb : TS} {D : Ends} {σ : L2.St} {H : Hp} (Pv : Nat → L2.St → Hp → Prop) (h0 : Pv 0 σ H) (hq : ∀ i σ H, Pv i σ H → SqT K H a xs)
    (hs : ∀ (i : Nat) (x : V) (T : Addr) (σ : L2.St) (H : Hp), xs[i]? = some x → Pv i σ H → H T = none → g (.ref T) σ (upd H T (.tup [.int (i : Nat), x])) fun σ2 H2 => tb { D with nx := Pv (i + 1), ct := Pv (i + 1), bk := D.nx } σ2 H2) (hd : ∀ σ H, Pv xs.length σ H → D.nx σ H) :
    ∃ W : Nat → Nat → L2.St → Hp → Prop, (∃ m, W 0 m σ H) ∧ ∀ i m σ H, W i m σ H →
      ((ItE K a).stop i H ∧ D.nx σ H) ∨ ((ItE K a).go i H ∧ ∃ N : L2.St → Hp → Prop, (∀ σ' H', N σ' H' → ∃ m', m' < m ∧ W (i + 1) m' σ' H') ∧ ∀ v H', (ItE K a).yld i H v H' → g v σ H' fun σ2 H2 => tb { D with nx := N, ct := N, bk := D.nx } σ2 H2) := by
  refine ⟨fun i m σ H => m = xs.length - i ∧ i ≤ xs.length ∧ Pv i σ H, ⟨xs.length, rfl, Nat.zero_le _, h0⟩, fun i m σ H ⟨em, le, p⟩ => ?_⟩
  subst em
  have q := hq i σ H p
  by_cases lt : i < xs.length
  · refine .inr ⟨⟨xs, _, q, List.getElem?_eq_getElem lt⟩, Pv (i + 1), fun σ' H' p' => ⟨_, by omega, rfl, lt, p'⟩, fun v H' y => ?_⟩
    obtain ⟨T, x, rfl, nT, rfl, f⟩ := y
    exact hs i x T σ H (f xs q) p nT
  · obtain rfl : i = xs.length := by omega
    exact .inl ⟨⟨xs, q, rfl⟩, hd σ H p⟩
/-- a loop over a list or a tuple -/
def iSeq (K : PySem.W.Frag) (tl : TE) : TI := fun σ H R => tl σ H fun x H1 => ∃ a, x = .ref a ∧ (((∃ xs, SqL K H1 a xs) ∧ R (Itl K a) H1) ∨ ((∃ xs, SqT K H1 a xs) ∧ R (Itt K a) H1))
theorem pi_seq {X : Cx} {tg l : Expr} {tl : TE} (hl : PE X l tl) : PI X tg l (iSeq X.K tl) := by
  refine ⟨fun pins s σ H R I h => ?_⟩
  refine thn (hl.run pins s σ H _ I h) fun v s1 ⟨x, H1, I1, r1, a, e, q1⟩ => ?_
  subst e
  cases r1
  have fp : ∀ b ∈ [s1.heap.objs.size], FpOk X pins H1 b := fun b hb => by
    rw [List.mem_singleton.mp hb]
    exact I1.fpOk (Nat.le_refl _) (I1.hok.fresh (Nat.le_refl _))
  rcases q1 with ⟨⟨xs, hq⟩, q⟩ | ⟨⟨xs, hq⟩, q⟩
  · obtain ⟨its, rv, pl, hz⟩ := I1.list hq
    exact wpAny_pyIter_list pl.isList ⟨_, _, _, _, H1, rfl, I1.kept (t' := s1.toks) fun b o y => Heap.get?_push_of_some _ y, turn_list a _, ⟨_, Heap.get?_push_size _ rfl, rfl, rfl⟩, fp, q⟩
  · obtain ⟨its, rv, pl, hz⟩ := I1.tuple hq
    exact wpAny_pyIter_tuple (show s1.heap.IsTuple a its.toArray from pl) ⟨_, _, _, _, H1, rfl, I1.kept (t' := s1.toks) fun b o y => Heap.get?_push_of_some _ y, turn_tuple a _, ⟨_, Heap.get?_push_size _ rfl, rfl, rfl⟩, fp, q⟩
def rLcm : List V → Hp → VK → Prop := fun vs H Q => ∃ a b : Int, vs = [.int a, .int b] ∧ a.natAbs < 2 ^ 64 ∧ b.natAbs < 2 ^ 64 ∧ Q (.int ((Nat.lcm a.natAbs b.natAbs : Nat) : Int)) H
theorem cr_lcm {X : Cx} : CallR X (.builtin "math.lcm") rLcm := by
  intro pins s σ H vs us Q I r h
  obtain ⟨a, b, rfl, ha, hb, q⟩ := h
  obtain ⟨t, u, rfl⟩ := Vals.int2 r
  have e1 : Nat.lcm 1 a.natAbs = a.natAbs := Nat.lcm_one_left _
  refine PySem.W.mg_lcm ha hb ?_ ?_
  · rw [e1]
    have : Nat.lcm a.natAbs b.natAbs < 2 ^ 128 := by
      have h1 : Nat.lcm a.natAbs b.natAbs ≤ a.natAbs * b.natAbs := Nat.div_le_self _ _
      have h2 : a.natAbs * b.natAbs < 2 ^ 64 * 2 ^ 64 := Nat.mul_lt_mul'' ha hb
      exact Nat.lt_of_le_of_lt h1 h2
    exact Nat.lt_of_lt_of_le (PySem.Flt.log2_lt_of (by decide) (show ((Nat.lcm a.natAbs b.natAbs : Nat) : Int).natAbs < 2 ^ 128 from this)) (by decide)
  · rw [e1]
    exact ⟨.int _, H, I.tok _, ⟨_, rfl⟩, q⟩
end Gd

/-! The end of a law whose promise wants to know what is under way: it is called by the judge's caller, where nothing is. -/
namespace Gd
open PySem PySem.Spec PyProof.Rows L2 LamX
/-- what is tracked ahead of the law's call: the tables ts, and the script at a unless it is of the written part -/
def h0 (ts : List Addr) (w : Bool) (a : Addr) (o : Obj) (xs : List V) : Hp := fun b => if b ∈ ts then some (.tbl #[]) else if w = true ∧ b = a then some (.frz o (.lst xs)) else none
section
variable {ts : List Addr} {w : Bool} {a b : Addr} {o : Obj} {xs : List V}
theorem h0_tab (h : b ∈ ts) : h0 ts w a o xs b = some (.tbl #[]) := if_pos h
theorem h0_at (h : a ∉ ts) (hw : w = true) : h0 ts w a o xs a = some (.frz o (.lst xs)) := by unfold h0; rw [if_neg h, if_pos ⟨hw, rfl⟩]
theorem h0_none (h : b ∉ ts) (h2 : ¬ (w = true ∧ b = a)) : h0 ts w a o xs b = none := by unfold h0; rw [if_neg h, if_neg h2]
theorem h0_cases (b : Addr) : (b ∈ ts ∧ h0 ts w a o xs b = some (.tbl #[])) ∨ (b ∉ ts ∧ w = true ∧ b = a ∧ h0 ts w a o xs b = some (.frz o (.lst xs))) ∨ (b ∉ ts ∧ ¬ (w = true ∧ b = a) ∧ h0 ts w a o xs b = none) := by
  by_cases h : b ∈ ts
  · exact .inl ⟨h, h0_tab h⟩
  · by_cases h2 : w = true ∧ b = a
    · exact .inr (.inl ⟨h, h2.1, h2.2, by obtain ⟨hw, rfl⟩ := h2; exact h0_at h hw⟩)
    · exact .inr (.inr ⟨h, h2, h0_none h h2⟩)
end
/-- what is known of the law's promise at the head's heap h -/
def LawG (l : PySem.W.OpenLaw) (w : World) (K : PySem.W.Frag) (k n : Nat) (x : Str) (mg : Str → Option Value) (fa : Addr) (h : Heap) : Prop :=
  ∃ (fd : FuncData) (cs : List (Addr × Addr)) (sp : Sp), (∀ p ∈ cs, h.get? p.2 = some { cls := .none, data := .fields #[] }) ∧ (∀ p ∈ cs, K.lookup p.2 = none) ∧ (∀ p ∈ cs, PySem.W.CodeHd h p.1 p.2) ∧ (∀ (s : Shared) (u : Value), BindsTo s fd ⟨[u], []⟩ [(x, u)]) ∧
    (∀ (H : Hp) (a : Addr) (ns : List Int), ns.length ≤ n → (∀ z ∈ ns, Builtin.Int.intBits z ≤ 1048576) → (∀ p ∈ cs, H p.2 = some (.tbl #[])) → SqL K H a (ns.map V.int) → sp [.ref a] H (fun v _ => v = .bl true) fun _ _ _ => False) ∧
    ∀ base : Heap, K.In base → base.Ns mainGlobals mg → (∀ p ∈ cs, TabB base mg p.1 p.2) → FnG l.prog w K mg base CX0 k fa fd [x] sp
section
variable {P : Program} {w : World} {K : PySem.W.Frag} {mg mb : Str → Option Value} {k : Nat} {fa a : Addr} {cs : List (Addr × Addr)} {fd : FuncData} {x : Str} {sp : Sp} {s₁ : Shared} {vs : List Value} {ns : List Int}
theorem law_callG (KX : K.In s₁.heap) (hns : s₁.heap.Ns mainGlobals mg) (hb : s₁.heap.Ns builtinsNs mb) (hbb : ∀ x : Str, x ≠ "__name__" → mb x = bootBuiltins x) (hlim : s₁.heap.NoLimit) (hg : s₁.gens = #[])
    (hT : ∀ p ∈ cs, s₁.heap.get? p.2 = some { cls := .none, data := .fields #[] }) (nT : ∀ p ∈ cs, K.lookup p.2 = none) (C : ∀ p ∈ cs, PySem.W.CodeHd s₁.heap p.1 p.2)
    (hbm : ∃ (bm : Addr) (ob : Obj), mg "__builtins__" = some (.ref bm) ∧ bm ≠ builtinsNs ∧ s₁.heap.get? bm = some ob ∧ ob.cls = .type "module" ∧ ob.dict = some builtinsNs ∧ ob.data = .plain)
    (ha : s₁.heap.get? a = some { cls := .type "list", data := .seq vs.toArray }) (hi : IntsAre vs ns) (hl : ns.length ≤ sizeLine) (hr : Room k callerA)
    (F : ∀ base : Heap, K.In base → base.Ns mainGlobals mg → (∀ p ∈ cs, TabB base mg p.1 p.2) → FnG P w K mg base CX0 k fa fd [x] sp) (hbind : ∀ (s : Shared) (u : Value), BindsTo s fd ⟨[u], []⟩ [(x, u)])
    (hsp : ∀ H : Hp, (∀ p ∈ cs, H p.2 = some (.tbl #[])) → SqL K H a (ns.map V.int) → sp [.ref a] H (fun v _ => v = .bl true) fun _ _ _ => False) :
    codeAny (model P w) callerA (.call (.ref fa) ⟨[.ref a], []⟩) (fun r s' => r = .ok (.ret (.bool true)) ∧ OldK s₁.heap s'.heap ∧ s'.os = s₁.os ∧ AllBare s'.gens) s₁ := by
  have rv := vals_ints hi
  have nlen := hi.length
  let ts := cs.map (·.2)
  have tabAt : ∀ b, b ∈ ts → s₁.heap.get? b = some { cls := .none, data := .fields #[] } ∧ K.lookup b = none := fun b hb => by
    obtain ⟨p, hp, rfl⟩ := List.mem_map.mp hb
    exact ⟨hT p hp, nT p hp⟩
  have inT : ∀ p ∈ cs, p.2 ∈ ts := fun p hp => List.mem_map.mpr ⟨p, hp, rfl⟩
  have aT : a ∉ ts := fun z => by
    have q := (tabAt a z).1
    rw [ha] at q
    exact absurd (congrArg Obj.data (Option.some.inj q)) (fun z => by cases z)
  let wr : Bool := (K.lookup a).isNone
  let H : Hp := h0 ts wr a { cls := .type "list", data := .seq vs.toArray } (ns.map V.int)
  -- the script is read
  have hS : SqL K H a (ns.map V.int) := by
    cases hk : K.lookup a with
    | none => exact .inl (.inr ⟨_, h0_at aT (by show (K.lookup a).isNone = true; rw [hk]; rfl)⟩)
    | some o =>
      have e := KX a o hk
      rw [ha] at e
      cases e
      exact .inr ⟨_, vs.toArray, _, hk, rfl, rfl, rfl, by rw [List.size_toArray, nlen]; exact hl, by simpa using rv⟩
  have hok : HOk P w H s₁.heap := fun b u e => by
    rcases h0_cases (ts := ts) (w := wr) (a := a) (o := { cls := .type "list", data := .seq vs.toArray }) (xs := ns.map V.int) b with ⟨h, q⟩ | ⟨_, _, rfl, q⟩ | ⟨_, _, q⟩
    · cases q.symm.trans e
      exact (tabAt b h).1
    · cases q.symm.trans e
      exact ⟨ha, by rw [List.length_map]; exact hl, vs, _, rv, ha⟩
    · cases q.symm.trans e
  -- an object that is neither a table nor the script is untracked
  have free : ∀ {b : Addr} {o : Obj}, s₁.heap.get? b = some o → o.data ≠ .fields #[] → (∀ us n, o.data ≠ .seq us n) → H b = none := fun {b o} e h1 h2 => by
    refine h0_none (fun z => ?_) (fun z => ?_)
    · rw [(tabAt b z).1] at e
      cases e
      exact h1 rfl
    · rw [z.2, ha] at e
      cases e
      exact h2 _ _ rfl
  have stay : ∀ {b : Addr} {o : Obj}, s₁.heap.get? b = some o → o.data ≠ .fields #[] → (∀ us n, o.data ≠ .seq us n) → (hidT s₁.heap H).get? b = some o := fun e h1 h2 => hidT_get e (free e h1 h2)
  have nsStay : ∀ {b : Addr} {m : Str → Option Value}, s₁.heap.Ns b m → (hidT s₁.heap H).Ns b m := fun {b m} ⟨o, es, ep, e, d, r⟩ => ⟨o, es, ep, stay e (fun z => by rw [d] at z; cases z) (fun _ _ z => by rw [d] at z; cases z), d, r⟩
  have KB : K.In (hidT s₁.heap H) := fun b o e => hidT_get (KX b o e) (by
    refine h0_none (fun z => ?_) (fun z => ?_)
    · rw [(tabAt b z).2] at e; cases e
    · have hw : (K.lookup a).isNone = true := z.1
      rw [z.2] at e
      rw [e] at hw; cases hw)
  have hM : L2.Mod K mg (hidT s₁.heap H) := by
    obtain ⟨mc, h1, h2⟩ := hlim
    exact ⟨KB, nsStay hns, ⟨mb, nsStay hb, hbb⟩, ⟨mc, nsStay h1, h2⟩⟩
  have TB : ∀ p ∈ cs, TabB (hidT s₁.heap H) mg p.1 p.2 := fun p hp => by
    have hTp := hT p hp
    refine ⟨?_, ?_, ?_⟩
    · obtain ⟨o, us, file, tf, flags, tg, inF, text, tt, e1, r1, r2, r3, r4, r5, r6, r7, r8, hne⟩ := C p hp
      exact ⟨o, us, file, tf, flags, tg, inF, text, tt, stay e1 (fun z => by rw [r2] at z; cases z; simp at r3) (fun _ _ z => by rw [r2] at z; cases z), r1, r2, r3, r4, r5, r6, r7, r8, hne⟩
    · obtain ⟨bm, ob, b1, b2, b3, b4, b5, b6⟩ := hbm
      refine ⟨bm, ob, b1, b2, fun q => ?_, fun q => ?_, stay b3 (fun z => by rw [b6] at z; cases z) (fun _ _ z => by rw [b6] at z; cases z), b4, b5, b6⟩
      · obtain ⟨o, es, ep, e, hd, _⟩ := hns
        rw [q, e] at b3
        cases b3
        rw [hd] at b6; cases b6
      · rw [q, hTp] at b3
        cases b3
        cases b6
    · intro z
      obtain ⟨o, es, ep, e, hd, _⟩ := hns
      rw [z, hTp] at e
      cases e
      cases hd
  have e0 : Env0 P w K mg (hidT s₁.heap H) callerA [] s₁ H := ⟨rfl, hM, fun b o e => of_hidT e, Nat.le_of_eq (hidT_size _ _), trivial, fun b z => absurd z (by simp [frs]), hok, .of_eq hg⟩
  refine codeAny_mono ((F _ KB (nsStay hns) TB).run callerA [] s₁ H ⟨[.ref a], []⟩ [.ref a] [.ref a] _ _ rfl hr e0 (hbind s₁ (.ref a)) (.cons rfl .nil) (hsp H (fun p hp => h0_tab (inT p hp)) hS)) fun r s' h => ?_
  cases r with
  | error e => exact (show False from h).elim
  | ok fl =>
    cases fl with
    | next => exact False.elim h
    | brk => exact False.elim h
    | cont => exact False.elim h
    | ret u =>
      obtain ⟨v, H', os, bare, un, hok', r', q⟩ := h
      obtain rfl : v = .bl true := q
      obtain rfl : u = Value.bool true := r'
      have kept : ∀ b o, b ∉ ts → s₁.heap.get? b = some o → s'.heap.get? b = some o := fun b o nb e => by
        rcases h0_cases (ts := ts) (w := wr) (a := a) (o := { cls := .type "list", data := .seq vs.toArray }) (xs := ns.map V.int) b with ⟨h, _⟩ | ⟨_, _, rfl, q⟩ | ⟨_, _, q⟩
        · exact absurd h nb
        · obtain ⟨e2, _⟩ := hok' b _ (un.frzs b _ _ q)
          rw [ha] at e
          rw [← e]; exact e2
        · exact un.keep b o e q (by simp [frs]) (by simp)
      have grown : ∀ p ∈ cs, ∃ more : Array Value, s'.heap.get? p.2 = some { cls := .none, data := .fields more } := fun p hp => by
        obtain ⟨more, z⟩ := un.tbls p.2 #[] (h0_tab (inT p hp))
        exact ⟨_, hok' p.2 _ z⟩
      refine ⟨rfl, ⟨fun b o e => ?_, fun b o e => ?_⟩, os, bare⟩
      · by_cases hbt : b ∈ ts
        · obtain ⟨p, hp, rfl⟩ := List.mem_map.mp hbt
          obtain ⟨more, hm⟩ := grown p hp
          rw [hT p hp] at e
          cases e
          exact .inr (.inl ⟨((C p hp).tab (hT p hp)).isCodeTable, rfl, #[], more, rfl, by rw [Array.empty_append]; exact hm⟩)
        · exact .inl (kept b o hbt e)
      · by_cases hbt : b ∈ ts
        · obtain ⟨p, hp, rfl⟩ := List.mem_map.mp hbt
          obtain ⟨more, hm⟩ := grown p hp
          exact ⟨_, hm⟩
        · exact ⟨o, kept b o hbt e⟩
end
theorem walk_ofG {l : PySem.W.OpenLaw} {n k : Nat} {q : Program} {loose : List Str} {XP : (Str → Option Value) → Heap → Prop} {YP : World → Heap → Prop} {d : DefRec} {x : Str}
    (hn : l.most = some n) (hn2 : n ≤ sizeLine) (hdf : d.params.defaults = []) (hr : Room k callerA)
    (F : ∀ (w : World) (mg : Str → Option Value) (fa : Addr) (h : Heap), YP w h → h.Ns mainGlobals mg → mg d.name = some (.ref fa) → ∃ K : PySem.W.Frag, K.In h ∧ LawG l w K k n x mg fa h) :
    PySem.W.WalkO q loose XP YP l.row.toRowW d [] (fun f vs => PySem.call f vs) := by
  refine Att.attach_callB hn hdf fun w s₀ s₁ mg mb fa o pm cd doc a vs ns G Y ho hd hcd hmg hobj hints hlen hbits hg => ?_
  obtain ⟨K, KX, fd, cs, sp, hT, nT, C, hb, hsp, hF⟩ := F w mg fa _ Y G.T.g hmg
  exact law_callG KX G.T.g G.T.b G.T.builtins G.T.nolimit hg hT nT C G.T.bmain hobj hints (Nat.le_trans hlen hn2) hr hF hb (fun H hH hS => hsp H a ns hlen hbits hH hS)
end Gd

/-! a comprehension over zip of two tuples; a statement that is not reached; in of a dict. -/
namespace Gd
open PySem PySem.Spec PyProof.Rows L2
theorem lc_zipM {K : PySem.W.Frag} {a b : Addr} {xs ys : List V} {g : TG} {tt : TT} {te : TE} {vs : List Nat} {σ : L2.St} {H1 : Hp} {D : Addr} {Qd : Hp → Prop} (n : Nat) (hn : n = min xs.length ys.length) (Pv : Nat → Hp → Prop) (h0 : Pv 0 (upd H1 D (.lst []))) (hq : ∀ i H, Pv i H → SqT K H a xs ∧ SqT K H b ys)
    (hs : ∀ (i : Nat) (x y : V) (T : Addr) (H : Hp), xs[i]? = some x → ys[i]? = some y → Pv i H → H T = none → g (.ref T) (wipe σ vs) (upd H T (.tup [x, y])) fun σ2 H2 => wipe σ2 vs = wipe σ vs ∧ tt σ2 H2 fun b H3 =>
      if b = true then te σ2 H3 fun y H4 => ∃ acc, H4 D = some (.lst acc) ∧ acc.length < sizeLine ∧ Pv (i + 1) (upd H4 D (.lst (acc ++ [y]))) else Pv (i + 1) H3) (hd : ∀ H, Pv n H → Qd H) :
    ∃ W : Nat → Nat → Hp → Prop, (∃ m, W 0 m (upd H1 D (.lst []))) ∧ ∀ i m H, W i m H →
      ((RZ.ItzT K a b).stop i H ∧ Qd H) ∨ ((RZ.ItzT K a b).go i H ∧ ∃ Nx : Hp → Prop, (∀ H', Nx H' → ∃ m', m' < m ∧ W (i + 1) m' H') ∧ ∀ x H', (RZ.ItzT K a b).yld i H x H' → g x (wipe σ vs) H' fun σ2 H2 => wipe σ2 vs = wipe σ vs ∧ tt σ2 H2 fun b H3 =>
        if b = true then te σ2 H3 fun y H4 => ∃ acc, H4 D = some (.lst acc) ∧ acc.length < sizeLine ∧ Nx (upd H4 D (.lst (acc ++ [y]))) else Nx H3) := by
  refine ⟨fun i m H => m = n - i ∧ i ≤ n ∧ Pv i H, ⟨n, rfl, Nat.zero_le _, h0⟩, ?_⟩
  rintro i m H ⟨rfl, hi, p⟩
  obtain ⟨qx, qy⟩ := hq i H p
  by_cases hlt : i < n
  · have hlt1 : i < xs.length := by omega
    have hlt2 : i < ys.length := by omega
    have hx : xs[i]? = some xs[i] := List.getElem?_eq_getElem hlt1
    have hy : ys[i]? = some ys[i] := List.getElem?_eq_getElem hlt2
    refine .inr ⟨⟨xs, ys, _, _, qx, qy, hx, hy⟩, Pv (i + 1), fun H' p' => ⟨n - (i + 1), by omega, rfl, hlt, p'⟩, fun v H' y => ?_⟩
    obtain ⟨T, x', y', rfl, hT, rfl, f1, f2⟩ := y
    exact hs i x' y' T H (f1 xs qx) (f2 ys qy) p hT
  · have e : i = n := by omega
    subst e
    exact .inl ⟨⟨xs, ys, qx, qy, by omega⟩, hd H p⟩
section
variable {X : Cx}
/-- a statement that is never reached -/
theorem ps_dead {st : Stmt} : PS X st (fun _ _ _ => False) := ⟨fun _ _ _ _ _ _ h => h.elim⟩
theorem pe_dead {e : Expr} : PE X e (fun _ _ _ => False) := ⟨fun _ _ _ _ _ _ h => h.elim⟩
theorem pss_dead {b : List Stmt} : PSs X b (fun _ _ _ => False) := ⟨fun _ _ _ _ _ _ h => h.elim⟩
def rInDc : R2 := fun x y H Q => ∃ a o, y = .ref a ∧ DGet H a x o ∧ Q (.bl o.isSome) H
def rNotInDc : R2 := fun x y H Q => ∃ a o, y = .ref a ∧ DGet H a x o ∧ Q (.bl (!o.isSome)) H
theorem op_inDc (hu : X.A.units + 1 < cLine) : OpR X (compareOp .In) rInDc := by
  intro pins s σ H x y v u Q I rx ry h
  obtain ⟨a, o, rfl, g, q⟩ := h
  cases ry
  exact d_in hu I g rx fun s1 I1 => ⟨.bl _, H, I1, rfl, q⟩
theorem op_notInDc (hu : X.A.units + 1 < cLine) : OpR X (compareOp .NotIn) rNotInDc := by
  intro pins s σ H x y v u Q I rx ry h
  obtain ⟨a, o, rfl, g, q⟩ := h
  cases ry
  exact d_notIn hu I g rx fun s1 I1 => ⟨.bl _, H, I1, rfl, q⟩
end
theorem _root_.L2.Room.units1 {k : Nat} {A : Around} (hr : Room k A) : A.units + 1 < cLine := by have := hr.un; omega
end Gd
namespace Gd
open PySem PySem.Spec PyProof.Rows L2
/-- a walk over a tuple, whatever a turn does -/
theorem walk_tup {K : PySem.W.Frag} {a : Addr} {xs : List V} {B : V → Hp → (Hp → Prop) → Prop} {H0 : Hp} {Qd : Hp → Prop} (Pv : Nat → Hp → Prop) (h0 : Pv 0 H0) (hl : ∀ i H, i ≤ xs.length → Pv i H → SqT K H a xs)
    (hs : ∀ i x H, xs[i]? = some x → Pv i H → B x H (Pv (i + 1))) (hd : ∀ H, Pv xs.length H → Qd H) :
    ∃ W : Nat → Nat → Hp → Prop, (∃ m, W 0 m H0) ∧ ∀ i m H, W i m H →
      ((Itt K a).stop i H ∧ Qd H) ∨ ((Itt K a).go i H ∧ ∃ Nx : Hp → Prop, (∀ H', Nx H' → ∃ m', m' < m ∧ W (i + 1) m' H') ∧ ∀ x H', (Itt K a).yld i H x H' → B x H' Nx) := by
  refine ⟨fun i m H => m = xs.length - i ∧ i ≤ xs.length ∧ Pv i H, ⟨xs.length, by simp, Nat.zero_le _, h0⟩, ?_⟩
  rintro i m H ⟨rfl, hi, p⟩
  have q := hl i H hi p
  by_cases hlt : i < xs.length
  · refine .inr ⟨⟨xs, xs[i], q, by simp [hlt]⟩, Pv (i + 1), fun H' p' => ⟨xs.length - (i + 1), by omega, rfl, hlt, p'⟩, fun x H' y => ?_⟩
    obtain ⟨e, y⟩ := y
    subst e
    exact hs i x _ (y xs q) p
  · have e : i = xs.length := by omega
    subst e
    exact .inl ⟨⟨xs, q, Nat.le_refl _⟩, hd H p⟩
end Gd
namespace Gd
open PySem PySem.Spec PyProof.Rows L2
/-- a walk over a text's signs -/
theorem walk_str {x : Str} {B : V → Hp → (Hp → Prop) → Prop} {H0 : Hp} {Qd : Hp → Prop} (Pv : Nat → Hp → Prop) (h0 : Pv 0 H0)
    (hs : ∀ i c H, x.cps[i]? = some c → Pv i H → B (.str ⟨#[c]⟩) H (Pv (i + 1))) (hd : ∀ H, Pv x.cps.size H → Qd H) :
    ∃ W : Nat → Nat → Hp → Prop, (∃ m, W 0 m H0) ∧ ∀ i m H, W i m H →
      ((Its x).stop i H ∧ Qd H) ∨ ((Its x).go i H ∧ ∃ Nx : Hp → Prop, (∀ H', Nx H' → ∃ m', m' < m ∧ W (i + 1) m' H') ∧ ∀ v H', (Its x).yld i H v H' → B v H' Nx) := by
  refine ⟨fun i m H => m = x.cps.size - i ∧ i ≤ x.cps.size ∧ Pv i H, ⟨x.cps.size, by simp, Nat.zero_le _, h0⟩, ?_⟩
  rintro i m H ⟨rfl, hi, p⟩
  by_cases hlt : i < x.cps.size
  · refine .inr ⟨hlt, Pv (i + 1), fun H' p' => ⟨x.cps.size - (i + 1), by omega, rfl, hlt, p'⟩, fun v H' y => ?_⟩
    obtain ⟨rfl, c, hc, rfl⟩ := y
    exact hs i c _ hc p
  · have e : i = x.cps.size := by omega
    subst e
    exact .inl ⟨Nat.le_refl _, hd H p⟩
end Gd

namespace Own
open PySem PySem.Spec PyProof.Rows L2 SX
/-! ### the store of numbers that the draws eat -/
structure HpL (H : Hp) (h q : Addr) (cs : List Int) (st : Int) : Prop where
  ne : h ≠ q
  hh : H h = some (.lst [.ref q, .int st])
  hq : H q = some (.lst (cs.map V.int))
  nn : ∀ c ∈ cs, 0 ≤ c
  ln : cs.length ≤ 60
  s0 : 0 ≤ st
  s1 : st < 2147483647
def HpAt (H : Hp) (h q : Addr) : Prop := ∃ cs st, HpL H h q cs st
def Kpt (h q : Addr) (H H' : Hp) : Prop := ∀ b o, H b = some o → b ≠ h → b ≠ q → H' b = some o
theorem Kpt.refl (h q : Addr) (H : Hp) : Kpt h q H H := fun _ _ e _ _ => e
theorem Kpt.trans {h q : Addr} {H H1 H2 : Hp} (a : Kpt h q H H1) (b : Kpt h q H1 H2) : Kpt h q H H2 := fun c o e n1 n2 => b c o (a c o e n1 n2) n1 n2
theorem Kpt.of_same {h q : Addr} {H H' : Hp} (s : Same H H') : Kpt h q H H' := fun b o e _ _ => s b o e
theorem Kpt.at_q {h q : Addr} {H : Hp} {o : HO} : Kpt h q H (upd H q o) := fun b x e _ n => by rw [upd_ne n]; exact e
theorem Kpt.at_h {h q : Addr} {H : Hp} {o : HO} : Kpt h q H (upd H h o) := fun b x e n _ => by rw [upd_ne n]; exact e
theorem HpL.same {H H' : Hp} {h q : Addr} {cs : List Int} {st : Int} (a : HpL H h q cs st) (s : Same H H') : HpL H' h q cs st := ⟨a.ne, s _ _ a.hh, s _ _ a.hq, a.nn, a.ln, a.s0, a.s1⟩
theorem HpAt.same {H H' : Hp} {h q : Addr} (a : HpAt H h q) (s : Same H H') : HpAt H' h q := by
  obtain ⟨cs, st, a⟩ := a
  exact ⟨cs, st, a.same s⟩
theorem HpL.put {H : Hp} {h q : Addr} {cs : List Int} {st : Int} (a : HpL H h q cs st) (ds : List Int) (nn : ∀ c ∈ ds, 0 ≤ c) (ln : ds.length ≤ 60) : HpL (upd H q (.lst (ds.map V.int))) h q ds st :=
  ⟨a.ne, by rw [upd_ne a.ne]; exact a.hh, upd_same, nn, ln, a.s0, a.s1⟩
theorem HpAt.fresh {H : Hp} {h q p : Addr} (a : HpAt H h q) (np : H p = none) : p ≠ h ∧ p ≠ q := by
  obtain ⟨cs, st, a⟩ := a
  exact ⟨(ne_of_none a.hh np).symm, (ne_of_none a.hq np).symm⟩
theorem dp_ints {K : PySem.W.Frag} {H : Hp} : ∀ cs : List Int, DpAll K H (cs.map V.int) (cs.map PyData.int)
  | [] => .nil
  | c :: r => .cons (.int c) (dp_ints r)
theorem shp_ints (ns : List Int) : SeqAt.shaped (.list (ns.map PyData.int)) = true := PySem.W.ke_shaped_ints ns
theorem Kpt.free {h q D : Addr} {H H1 : Hp} (k : Kpt h q H H1) (n : H1 D = none) (n1 : D ≠ h) (n2 : D ≠ q) : H D = none := by
  cases e : H D with
  | none => rfl
  | some o => rw [k _ _ e n1 n2] at n; cases n
theorem Kpt.at_new {h q D : Addr} {H H1 : Hp} {o : HO} (k : Kpt h q H H1) (n : H D = none) : Kpt h q H (upd H1 D o) := fun b x e n1 n2 => by
  rw [upd_ne (ne_of_none e n)]; exact k _ _ e n1 n2
theorem HpAt.upd {H : Hp} {h q D : Addr} {o : HO} (a : HpAt H h q) (n1 : D ≠ h) (n2 : D ≠ q) : HpAt (upd H D o) h q := by
  obtain ⟨cs, st, a⟩ := a
  exact ⟨cs, st, a.ne, by rw [upd_ne n1.symm]; exact a.hh, by rw [upd_ne n2.symm]; exact a.hq, a.nn, a.ln, a.s0, a.s1⟩
theorem cut60 (ns : List Int) : cutV (ns.map V.int) none (some 60) = (ns.take 60).map V.int := by
  unfold cutV
  rw [HT.sIx_none, show HT.sIx (ns.map V.int).length (ns.map V.int).length (some 60) = min 60 (ns.map V.int).length from HT.sIx_nat _ _ 60, List.drop_zero, Nat.sub_zero, List.map_take]
  by_cases h : 60 ≤ (ns.map V.int).length
  · rw [Nat.min_eq_left h]
  · rw [Nat.min_eq_right (by omega), List.take_length, List.take_of_length_le (by omega)]
theorem get_int {ns : List Int} {i : Nat} {x : V} (h : (ns.map V.int)[i]? = some x) : ∃ z, ns[i]? = some z ∧ x = .int z := by
  rw [List.getElem?_map] at h
  cases e : ns[i]? with
  | none => rw [e] at h; cases h
  | some z => rw [e] at h; exact ⟨z, rfl, (Option.some.inj h).symm⟩
end Own

/-! zip of three tuples in a loop, tuple(zip(list, list)), len(set(tuple of integers)). -/
namespace Z3
open PySem PySem.Spec PyProof.Rows L2 RZ
/-! ### three tuples side by side -/
def ItzT3 (K : PySem.W.Frag) (a b c : Addr) : It :=
  ⟨fun i H => ∃ (xs ys zs : List V) (x y z : V), SqT K H a xs ∧ SqT K H b ys ∧ SqT K H c zs ∧ xs.length = ys.length ∧ ys.length = zs.length ∧ xs[i]? = some x ∧ ys[i]? = some y ∧ zs[i]? = some z,
    fun i H v H' => ∃ T x y z, v = .ref T ∧ H T = none ∧ H' = upd H T (.tup [x, y, z]) ∧ (∀ xs, SqT K H a xs → xs[i]? = some x) ∧ (∀ ys, SqT K H b ys → ys[i]? = some y) ∧ ∀ zs, SqT K H c zs → zs[i]? = some z,
    fun i H => ∃ xs ys zs : List V, SqT K H a xs ∧ SqT K H b ys ∧ SqT K H c zs ∧ xs.length = i ∧ ys.length = i ∧ zs.length = i⟩
theorem turn_zip3 {P : Program} {w : World} {K : PySem.W.Frag} {elts : List Expr} {kk : Nat} {tpos : Pos} {a b c z TI TO i1 i2 i3 : Addr} (D : ZipSep3 z TI TO i1 i2 i3 [i1, a] [i2, b] [i3, c]) (na : a ≠ i1) (nb : b ≠ i2) (nc : c ≠ i3) :
    Turn P w K (.Tuple elts kk tpos) (ItzT3 K a b c) [z, TI, TO, i1, i2, i3] z (fun i h => IsZip h z TI TO .none ∧ IsTupOf3 h TI (.ref i1) (.ref i2) (.ref i3) ∧ (∃ x y v, IsTupOf3 h TO x y v) ∧ h.IsTupleIter i1 a i ∧ h.IsTupleIter i2 b i ∧ h.IsTupleIter i3 c i) where
  mem := by simp
  obj := fun i h st e hc => by
    obtain ⟨hz, hTI, ⟨x, y, v, hTO⟩, ⟨o1, e1, _, d1⟩, ⟨o2, e2, _, d2⟩, ⟨o3, e3, _, d3⟩⟩ := st
    have e' : e = z ∨ e = TI ∨ e = TO ∨ e = i1 ∨ e = i2 ∨ e = i3 := by simpa using hc
    rcases e' with q | q | q | q | q | q
    · rw [q]; exact ⟨_, hz, fun v q => nomatch q⟩
    · rw [q]; exact ⟨_, hTI, fun v q => nomatch q⟩
    · rw [q]; exact ⟨_, hTO, fun v q => nomatch q⟩
    · rw [q]; exact ⟨o1, e1, fun v q => by rw [d1] at q; cases q⟩
    · rw [q]; exact ⟨o2, e2, fun v q => by rw [d2] at q; cases q⟩
    · rw [q]; exact ⟨o3, e3, fun v q => by rw [d3] at q; cases q⟩
  keep := fun i h h' st k => by
    obtain ⟨hz, hTI, ⟨x, y, v, hTO⟩, h1, h2, h3⟩ := st
    exact ⟨k z (by simp) _ hz, k TI (by simp) _ hTI, ⟨x, y, v, k TO (by simp) _ hTO⟩, h1.at fun o q => k i1 (by simp) o q, h2.at fun o q => k i2 (by simp) o q, h3.at fun o q => k i3 (by simp) o q⟩
  item := by
    intro X hP hw hK hc i pins s σ H E I hf st hg
    subst hP hw hK
    obtain ⟨hz, hTI, ⟨x0, y0, v0, hTO⟩, h1, h2, h3⟩ := st
    obtain ⟨xs, ys, zs, x, y, v, hqx, hqy, hqz, le1, le2, hx, hy, hv⟩ := hg
    obtain ⟨its, rv, p, _⟩ := I.tuple hqx
    obtain ⟨its2, rv2, p2, _⟩ := I.tuple hqy
    obtain ⟨its3, rv3, p3, _⟩ := I.tuple hqz
    obtain ⟨u, hu, ru⟩ := rv.get hx
    obtain ⟨u2, hu2, ru2⟩ := rv2.get hy
    obtain ⟨u3, hu3, ru3⟩ := rv3.get hv
    have hzl : z < s.heap.objs.size := Heap.lt_size hz
    have hh : X.A.in1.in1.handled = none := I.ok.hd hc
    have l1 : i < its.toArray.size := by have := (List.getElem?_eq_some_iff.mp hu).1; simpa using this
    have l2 : i < its2.toArray.size := by have := (List.getElem?_eq_some_iff.mp hu2).1; simpa using this
    have l3 : i < its3.toArray.size := by have := (List.getElem?_eq_some_iff.mp hu3).1; simpa using this
    refine wpAny_pyNext_zipD3_item (A := X.A) D (Draws.tuple (A := X.A.in1) hh i1 a na its.toArray) (Draws.tuple (A := X.A.in1) hh i2 b nb its2.toArray) (Draws.tuple (A := X.A.in1) hh i3 c nc its3.toArray) hz hTI hTO ⟨h1, p⟩ ⟨h2, p2⟩ ⟨h3, p3⟩ l1 l2 l3 fun x1 x2 x3 h' tk e1 e2 e3 z' TO' q1 q2 q3 hT hsz hk => ?_
    obtain rfl : x1 = u := by
      have : its[i]? = some x1 := by simpa using e1
      rw [hu] at this; exact (Option.some.inj this).symm
    obtain rfl : x2 = u2 := by
      have : its2[i]? = some x2 := by simpa using e2
      rw [hu2] at this; exact (Option.some.inj this).symm
    obtain rfl : x3 = u3 := by
      have : its3[i]? = some x3 := by simpa using e3
      rw [hu3] at this; exact (Option.some.inj this).symm
    refine ⟨_, rfl, wpAny_letOwnedTupleGo_zip (s := { s with heap := h', toks := tk }) z' fun h'' z'' sb => ?_⟩
    have hT2 : h''.get? s.heap.objs.size = some { cls := .type "tuple", data := .seq #[x1, x2, x3] } := (sb.2 _ (Nat.ne_of_gt hzl)).trans hT
    have new : ObjOk X.prog X.w (upd H s.heap.objs.size (.tup [x, y, v])) h'' s.heap.objs.size (.tup [x, y, v]) :=
      ⟨by show 3 ≤ sizeLine; decide, [x1, x2, x3], .cons ru (.cons ru2 (.cons ru3 .nil)), ⟨_, hT2, rfl, _, rfl⟩⟩
    have I1 : Inv X pins σ (upd H s.heap.objs.size (.tup [x, y, v])) { s with heap := h'', toks := tk } :=
      I.turnedNew (t' := tk) (ch := [z, TI, TO, i1, i2, i3]) (fun c o hb q => (sb.2 c (fun q' => hb (by simp [q']))).trans (hk c o (fun q' => hb (by simp [q'])) (fun q' => hb (by simp [q'])) (fun q' => hb (by simp [q'])) (fun q' => hb (by simp [q'])) (fun q' => hb (by simp [q'])) q)) hf (Nat.le_refl _) new
    refine ⟨.ref s.heap.objs.size, _, I1, rfl, ⟨_, x, y, v, rfl, I.hok.fresh (Nat.le_refl _), rfl, fun l hl => by rw [I.tuple_inj hl hqx]; exact hx, fun l hl => by rw [I.tuple_inj hl hqy]; exact hy, fun l hl => by rw [I.tuple_inj hl hqz]; exact hv⟩, ⟨z'', ?_, ⟨x1, x2, x3, ?_⟩, ?_, ?_, ?_⟩, fun e hcm => ?_⟩
    · exact (sb.2 _ D.TIz).trans (hk _ _ D.TIz D.TITO D.TIi1 D.TIi2 D.TIi3 hTI)
    · exact (sb.2 _ D.TOz).trans TO'
    · exact q1.1.at fun o q => (sb.2 _ D.zi1.symm).trans q
    · exact q2.1.at fun o q => (sb.2 _ D.zi2.symm).trans q
    · exact q3.1.at fun o q => (sb.2 _ D.zi3.symm).trans q
    · have hlt : e < s.heap.objs.size := by
        have e' : e = z ∨ e = TI ∨ e = TO ∨ e = i1 ∨ e = i2 ∨ e = i3 := by simpa using hcm
        rcases e' with q | q | q | q | q | q
        · rw [q]; exact hzl
        · rw [q]; exact Heap.lt_size hTI
        · rw [q]; exact Heap.lt_size hTO
        · rw [q]; obtain ⟨_, e1, _⟩ := h1; exact Heap.lt_size e1
        · rw [q]; obtain ⟨_, e2, _⟩ := h2; exact Heap.lt_size e2
        · rw [q]; obtain ⟨_, e3, _⟩ := h3; exact Heap.lt_size e3
      rw [upd_ne (Nat.ne_of_lt hlt)]
      exact (hf e hcm).1
  done := by
    intro X hP hw hK hc i pins s σ H E I hf st hg
    subst hP hw hK
    obtain ⟨hz, hTI, ⟨x0, y0, v0, hTO⟩, h1, h2, h3⟩ := st
    obtain ⟨xs, ys, zs, hqx, hqy, hqz, lx, ly, lz⟩ := hg
    obtain ⟨its, rv, p, _⟩ := I.tuple hqx
    obtain ⟨its2, rv2, p2, _⟩ := I.tuple hqy
    obtain ⟨its3, rv3, p3, _⟩ := I.tuple hqz
    have l1 := rv.length
    have l2 := rv2.length
    have l3 := rv3.length
    have s1 : its.toArray.size = i := by simp; omega
    have s2 : its2.toArray.size = i := by simp; omega
    have s3 : its3.toArray.size = i := by simp; omega
    have hh : X.A.in1.in1.handled = none := I.ok.hd hc
    exact wpAny_pyNext_zipD3_end (A := X.A) D (Draws.tuple (A := X.A.in1) hh i1 a na its.toArray) (Draws.tuple (A := X.A.in1) hh i2 b nb its2.toArray) (Draws.tuple (A := X.A.in1) hh i3 c nc its3.toArray) hz hTI hTO ⟨h1, p⟩ ⟨h2, p2⟩ ⟨h3, p3⟩ (by omega) (by omega) (by omega) (.inl s1.symm)
      fun h' tk hk => ⟨rfl, I.turnedL (t' := tk) (ch := [z, TI, TO, i1, i2, i3]) (fun c o hb q =>
      hk c o (fun q' => hb (by simp [q'])) (fun q' => hb (by simp [q'])) (fun q' => hb (by simp [q'])) (fun q' => hb (by simp [q'])) (fun q' => hb (by simp [q'])) q) hf⟩
  self := fun A i s Q E st h => wpAny_pyIter_zip st.1 h
def iZip3 (K : PySem.W.Frag) (ta : TA) : TI := fun σ H R => ta σ H fun vs H1 => ∃ a b c xs ys zs, vs = [.ref a, .ref b, .ref c] ∧ SqT K H1 a xs ∧ SqT K H1 b ys ∧ SqT K H1 c zs ∧ R (ItzT3 K a b c) H1
theorem pi_zip3 {X : Cx} {e e2 e3 : Expr} {ta : TA} {p pos tpos : Pos} {elts : List Expr} {kk : Nat} (hg : Gl X "zip") (hm : X.mg "zip" = none) (ha : PA X [e, e2, e3] ta)
    (hs : starEach [e, e2, e3] X.env = (false, eval e X.env) :: starEach [e2, e3] X.env := by rfl) (hpl : (backTo pos (starEach [e2, e3] X.env)).any (·.1) = false := by rfl) :
    PI X (.Tuple elts kk tpos) (.Call (.Name "zip" p) [e, e2, e3] [] pos) (iZip3 X.K ta) := by
  refine ⟨fun pins s σ H R I h => ?_⟩
  refine Call_ (ld_blt I hg hm PyProof.Rows.boot_zip (PyProof.Rows.callWith_type1 (thn (ha.run pos pins s σ H _ I h) fun us s1 ⟨vs, H1, I1, r1, q1⟩ => ?_) hs hpl))
  obtain ⟨a, b, c, xs, ys, zs, ex, hqx, hqy, hqz, q⟩ := q1
  subst ex
  cases r1 with
  | cons r rr =>
    cases rr with
    | cons r' rr =>
      cases rr with
      | cons r'' rr =>
        cases rr
        cases r
        cases r'
        cases r''
        have fresh6 : ∀ c, c ∈ [s1.heap.objs.size + 5, s1.heap.objs.size + 3, s1.heap.objs.size + 4, s1.heap.objs.size, s1.heap.objs.size + 1, s1.heap.objs.size + 2] → FpOk X pins H1 c := fun c hcm => by
          have e' : c = s1.heap.objs.size + 5 ∨ c = s1.heap.objs.size + 3 ∨ c = s1.heap.objs.size + 4 ∨ c = s1.heap.objs.size ∨ c = s1.heap.objs.size + 1 ∨ c = s1.heap.objs.size + 2 := by simpa using hcm
          have hle : s1.heap.objs.size ≤ c := by
            rcases e' with z | z | z | z | z | z <;> rw [z] <;> first | exact Nat.le_refl _ | exact Nat.le_add_right _ _
          exact I1.fpOk hle (I1.hok.fresh hle)
        obtain ⟨its, rv, p1, _⟩ := I1.tuple hqx
        obtain ⟨its2, rv2, p2, _⟩ := I1.tuple hqy
        obtain ⟨its3, rv3, p3, _⟩ := I1.tuple hqz
        have la : @LT.lt Nat _ a s1.heap.objs.size := by obtain ⟨_, e, _⟩ := id p1; exact Heap.lt_size e
        have lb : @LT.lt Nat _ b s1.heap.objs.size := by obtain ⟨_, e, _⟩ := id p2; exact Heap.lt_size e
        have lc : @LT.lt Nat _ c s1.heap.objs.size := by obtain ⟨_, e, _⟩ := id p3; exact Heap.lt_size e
        refine zip_begins3 (begins_tuple a its.toArray) (begins_tuple b its2.toArray) (begins_tuple c its3.toArray) p1 p2 p3 fun h' hz hTI hTO h1 h2 h3 hsz hk => wpAny_pyIter_zip hz ?_
        have I2 : Inv X pins σ H1 { s1 with heap := h' } := I1.kept (t' := s1.toks) hk
        have ap : ZipSep3 (s1.heap.objs.size + 5) (s1.heap.objs.size + 3) (s1.heap.objs.size + 4) s1.heap.objs.size (s1.heap.objs.size + 1) (s1.heap.objs.size + 2) [s1.heap.objs.size, a] [s1.heap.objs.size + 1, b] [s1.heap.objs.size + 2, c] := by
          refine ⟨?_, ?_, ?_, ?_, ?_, ?_, ?_, ?_, ?_, ?_, ?_, ?_, ?_, ?_, ?_, ?_, ?_, ?_, ?_, ?_, ?_⟩
          all_goals first
            | exact List.mem_cons_self ..
            | (intro h; have h2 : @Eq Nat _ _ := h; omega)
            | (intro h; rcases List.mem_cons.mp h with h | h
               · have h2 : @Eq Nat _ _ := h; omega
               · have h2 : @Eq Nat _ _ := List.mem_singleton.mp h; omega)
        exact ⟨s1.heap.objs.size + 5, [s1.heap.objs.size + 5, s1.heap.objs.size + 3, s1.heap.objs.size + 4, s1.heap.objs.size, s1.heap.objs.size + 1, s1.heap.objs.size + 2], _, _, H1, rfl, I2, turn_zip3 ap (fun e => by have h2 : @Eq Nat _ _ := e; omega) (fun e => by have h2 : @Eq Nat _ _ := e; omega) (fun e => by have h2 : @Eq Nat _ _ := e; omega), ⟨hz, hTI, ⟨_, _, _, hTO⟩, ⟨_, h1, rfl, rfl⟩, ⟨_, h2, rfl, rfl⟩, ⟨_, h3, rfl, rfl⟩⟩, fresh6, q⟩
theorem for_zip3 {K : PySem.W.Frag} {a b c : Addr} {xs ys zs : List V} {g : TG} {tb : TS} {D : Ends} {σ : L2.St} {H : Hp} (hl : xs.length = ys.length) (hl2 : ys.length = zs.length) (Pv : Nat → L2.St → Hp → Prop) (h0 : Pv 0 σ H) (hq : ∀ i σ H, Pv i σ H → SqT K H a xs ∧ SqT K H b ys ∧ SqT K H c zs)
    (hs : ∀ (i : Nat) (x y z : V) (T : Addr) (σ : L2.St) (H : Hp), xs[i]? = some x → ys[i]? = some y → zs[i]? = some z → Pv i σ H → H T = none → g (.ref T) σ (upd H T (.tup [x, y, z])) fun σ2 H2 => tb { D with nx := Pv (i + 1), ct := Pv (i + 1), bk := D.nx } σ2 H2) (hd : ∀ σ H, Pv xs.length σ H → D.nx σ H) :
    ∃ W : Nat → Nat → L2.St → Hp → Prop, (∃ m, W 0 m σ H) ∧ ∀ i m σ H, W i m σ H →
      ((ItzT3 K a b c).stop i H ∧ D.nx σ H) ∨ ((ItzT3 K a b c).go i H ∧ ∃ N : L2.St → Hp → Prop, (∀ σ' H', N σ' H' → ∃ m', m' < m ∧ W (i + 1) m' σ' H') ∧ ∀ v H', (ItzT3 K a b c).yld i H v H' → g v σ H' fun σ2 H2 => tb { D with nx := N, ct := N, bk := D.nx } σ2 H2) := by
  refine ⟨fun i m σ H => m = xs.length - i ∧ i ≤ xs.length ∧ Pv i σ H, ⟨xs.length, rfl, Nat.zero_le _, h0⟩, ?_⟩
  rintro i m σ H ⟨rfl, hi, p⟩
  obtain ⟨qx, qy, qz⟩ := hq i σ H p
  by_cases hlt : i < xs.length
  · have hx : xs[i]? = some xs[i] := List.getElem?_eq_getElem hlt
    have hlt2 : i < ys.length := by omega
    have hy : ys[i]? = some ys[i] := List.getElem?_eq_getElem hlt2
    have hlt3 : i < zs.length := by omega
    have hz : zs[i]? = some zs[i] := List.getElem?_eq_getElem hlt3
    refine .inr ⟨⟨xs, ys, zs, _, _, _, qx, qy, qz, hl, hl2, hx, hy, hz⟩, Pv (i + 1), fun σ' H' p' => ⟨xs.length - (i + 1), by omega, rfl, hlt, p'⟩, fun v H' y => ?_⟩
    obtain ⟨T, x', y', z', rfl, hT, rfl, f1, f2, f3⟩ := y
    exact hs i x' y' z' T σ H (f1 xs qx) (f2 ys qy) (f3 zs qz) p hT
  · have e : i = xs.length := by omega
    subst e
    exact .inl ⟨⟨xs, ys, zs, qx, qy, qz, rfl, hl.symm, by omega⟩, hd σ H p⟩
/-! ### len(set(t)), t a tuple of unlike integers -/
def tLenSetT (K : PySem.W.Frag) (ta : TE) : TE := fun σ H Q => ta σ H fun x H1 => ∃ (l : Addr) (ns : List Int), x = .ref l ∧ SqT K H1 l (ns.map V.int) ∧ ns.Nodup ∧ ns.length ≤ 1000 ∧ Q (.int (ns.length : Nat)) H1
theorem pe_lenSetT {X : Cx} {a : Expr} {ta : TE} {p p2 q pos : Pos} (hg : Gl X "len") (hm : X.mg "len" = none) (hg2 : Gl X "set") (hm2 : X.mg "set" = none) (ha : PE X a ta) (hc : X.calm = true := by rfl)
    (na : starEach [a] X.env = (false, eval a X.env) :: starEach [] X.env := by rfl) : PE X (.Call (.Name "len" p) [.Call (.Name "set" p2) [a] [] q] [] pos) (tLenSetT X.K ta) := by
  refine ⟨fun pins s σ H Q I h => ?_⟩
  refine Call_ (ld_blt I hg hm boot_len ?_)
  refine PyProof.Rows.callWith_builtin1 (PyProof.Rows.args_cons ?_ rfl) rfl rfl
  refine Call_ (ld_blt I hg2 hm2 boot_set ?_)
  refine PyProof.Rows.callWith_type1 (PyProof.Rows.args_cons (thn (ha.run pins s σ H _ I h) fun v s1 ⟨x, H1, I1, r1, q1⟩ => PyProof.Rows.args_nil ?_) na) na rfl
  obtain ⟨l, ns, rfl, hq, hnd, hl, q1⟩ := q1
  cases r1
  obtain ⟨its, r, pl, hz⟩ := I1.tuple hq
  refine call_set_tupI ns (I1.ok.hd hc) pl (by simpa using intsAre_vals r) (by unfold scanBound; omega) fun h' tk c hS hc' hk => ?_
  refine PyProof.Rows.args_nil ?_
  obtain ⟨o, es, ep, t, ho, hex, hd, _, nd, iff, lt, hf, hn, _⟩ := hS
  have hlen : es.size = ns.length := by
    have pm : (es.toList.map keyOf).Perm ns := (List.perm_ext_iff_of_nodup nd hnd).mpr fun k => ⟨fun h => of_decide_eq_true ((iff k).mpr h), fun h => (iff k).mp (decide_eq_true h)⟩
    have := pm.length_eq
    rw [List.length_map, Array.length_toList] at this
    exact this
  have I2 : Inv X pins σ H1 { s1 with heap := h', toks := tk } := I1.kept hk
  exact call_len_set ho hex hd hf (by rw [hlen] <;> omega) ⟨.int ns.length, H1, I2.tok _, ⟨_, by rw [hlen]⟩, q1⟩
end Z3

/-! tuple(zip(xs, ys)) of two lists of one length: a new tuple of new pairs. -/
namespace Z3
open PySem PySem.Spec PyProof.Rows L2 RZ
theorem zip_no_len : typeLookup (.type "zip") "__len__" = pure none := by rw [typeLookup_type, builtinLookup_eq_fast]; kernel_rfl
theorem zip_no_hint : typeLookup (.type "zip") "__length_hint__" = pure none := by rw [typeLookup_type, builtinLookup_eq_fast]; kernel_rfl
structure ZSt (a b z TI TO i1 i2 : Addr) (i : Nat) (h : Heap) : Prop where
  h1 : h.IsListIter i1 a i
  h2 : h.IsListIter i2 b i
  hTI : IsPair h TI (.ref i1) (.ref i2)
  hTO : ∃ o, h.get? TO = some o
  st : (IsZip h z TI TO .none ∧ ∃ x y, IsPair h TO x y) ∨ ∃ T f oT, IsZipHeld h z TI TO T f ∧ h.get? T = some oT ∧ T ∉ [z, TO, i1, i2]
def lstO (Ts : List Addr) (c : Nat) : Obj := { cls := .type "list", dict := none, data := .seq (Ts.map Value.ref).toArray c, slots := #[] }
theorem Same.at_new {H : Hp} {p : Addr} {o : HO} (h : H p = none) : L2.Same H (upd H p o) := fun b x e => by
  rw [upd_ne (ne_of_none e h)]; exact e
section
variable {X : Cx} {pins : List (Addr × Obj)} {σ : L2.St} {a b z TI TO i1 i2 S : Addr} {xs ys : List V}
theorem zip_step {A : Around} {E : Value → Shared → Prop} (D : ZipApart z TI TO i1 i2 a b) (nS : S ∉ [z, TI, TO, i1, i2]) {i : Nat} {s : Shared} {H : Hp} {oS : Obj} (I : Inv X pins σ H s) (hf : ∀ b ∈ [z, TI, TO, i1, i2], FpOk X pins H b)
    (hqx : SqL X.K H a xs) (hqy : SqL X.K H b ys) (Z : ZSt a b z TI TO i1 i2 i s.heap) (hS : s.heap.get? S = some oS) {x y : V} (hx : xs[i]? = some x) (hy : ys[i]? = some y) :
    wpAny (model X.prog X.w) A (pyNext (.ref z)) (fun r s1 => r = some (.ref s.heap.objs.size) ∧ Inv X pins σ (upd H s.heap.objs.size (.tup [x, y])) s1 ∧ ZSt a b z TI TO i1 i2 (i + 1) s1.heap ∧ s1.heap.get? S = some oS ∧ s.heap.objs.size < s1.heap.objs.size ∧ s.heap.objs.size ∉ [z, TI, TO, i1, i2, S]) E s := by
  obtain ⟨its, rv, p, _⟩ := I.list hqx
  obtain ⟨its2, rv2, p2, _⟩ := I.list hqy
  obtain ⟨u, hu, ru⟩ := rv.get hx
  obtain ⟨u2, hu2, ru2⟩ := rv2.get hy
  obtain ⟨h1, h2, hTI, ⟨oO, gO⟩, st⟩ := Z
  have ltO : TO < s.heap.objs.size := Heap.lt_size gO
  have Szz : S ≠ z := fun e => nS (by simp [e])
  have Sto : S ≠ TO := fun e => nS (by simp [e])
  have S1 : S ≠ i1 := fun e => nS (by simp [e])
  have S2 : S ≠ i2 := fun e => nS (by simp [e])
  have lt1 : i1 < s.heap.objs.size := by obtain ⟨_, e, _⟩ := h1; exact Heap.lt_size e
  have lt2 : i2 < s.heap.objs.size := by obtain ⟨_, e, _⟩ := h2; exact Heap.lt_size e
  have ltT : TI < s.heap.objs.size := Heap.lt_size hTI
  have ltS : S < s.heap.objs.size := Heap.lt_size hS
  rcases st with ⟨hz, x0, y0, hTO⟩ | ⟨T, f, oT, hz, hT, nT⟩
  · have ltz : z < s.heap.objs.size := Heap.lt_size hz
    refine wpAny_pyNext_zip_item D hz hTI hTO h1 h2 p.isList p2.isList (x := u) (y := u2) (by simpa using hu) (by simpa using hu2) fun h' z' TO' h1' h2' hT hsz hk => ?_
    have new : ObjOk X.prog X.w (upd H s.heap.objs.size (.tup [x, y])) h' s.heap.objs.size (.tup [x, y]) :=
      ⟨by show 2 ≤ sizeLine; decide, [u, u2], .cons ru (.cons ru2 .nil), ⟨_, hT, rfl, _, rfl⟩⟩
    have I1 : Inv X pins σ (upd H s.heap.objs.size (.tup [x, y])) { s with heap := h' } :=
      I.turnedNew (t' := s.toks) (ch := [z, TI, TO, i1, i2]) (fun c o hb q => hk c o (fun q' => hb (by simp [q'])) (fun q' => hb (by simp [q'])) (fun q' => hb (by simp [q'])) (fun q' => hb (by simp [q'])) q) hf (Nat.le_refl _) new
    refine ⟨rfl, I1, ⟨h1', h2', hk _ _ D.TIz D.TITO D.TIi1 D.TIi2 hTI, ⟨_, TO'⟩, .inr ⟨s.heap.objs.size, false, _, z', hT, ?_⟩⟩, hk _ _ Szz Sto S1 S2 hS, ?_, ?_⟩
    · simp only [List.mem_cons, List.not_mem_nil, or_false, not_or]
      exact ⟨Nat.ne_of_gt ltz, Nat.ne_of_gt ltO, Nat.ne_of_gt lt1, Nat.ne_of_gt lt2⟩
    · show s.heap.objs.size < h'.objs.size
      rw [hsz]; exact Nat.lt_succ_self _
    · simp only [List.mem_cons, List.not_mem_nil, or_false, not_or]
      exact ⟨Nat.ne_of_gt ltz, Nat.ne_of_gt ltT, Nat.ne_of_gt ltO, Nat.ne_of_gt lt1, Nat.ne_of_gt lt2, Nat.ne_of_gt ltS⟩
  · have ltz : z < s.heap.objs.size := Heap.lt_size hz
    have nTz : T ≠ z := fun e => nT (by simp [e])
    have nT1 : T ≠ i1 := fun e => nT (by simp [e])
    have nT2 : T ≠ i2 := fun e => nT (by simp [e])
    refine wpAny_pyNext_zip_item_held D hz hT hTI h1 h2 p.isList p2.isList (x := u) (y := u2) (by simpa using hu) (by simpa using hu2) fun h' z' h1' h2' hT' hsz hk => ?_
    have new : ObjOk X.prog X.w (upd H s.heap.objs.size (.tup [x, y])) h' s.heap.objs.size (.tup [x, y]) :=
      ⟨by show 2 ≤ sizeLine; decide, [u, u2], .cons ru (.cons ru2 .nil), ⟨_, hT', rfl, _, rfl⟩⟩
    have I1 : Inv X pins σ (upd H s.heap.objs.size (.tup [x, y])) { s with heap := h' } :=
      I.turnedNew (t' := s.toks) (ch := [z, TI, TO, i1, i2]) (fun c o hb q => hk c o (fun q' => hb (by simp [q'])) (fun q' => hb (by simp [q'])) (fun q' => hb (by simp [q'])) q) hf (Nat.le_refl _) new
    refine ⟨rfl, I1, ⟨h1', h2', hk _ _ D.TIz D.TIi1 D.TIi2 hTI, ⟨_, hk _ _ D.TOz D.TOi1 D.TOi2 gO⟩, .inr ⟨T, true, oT, z', hk _ _ nTz nT1 nT2 hT, nT⟩⟩, hk _ _ Szz S1 S2 hS, ?_, ?_⟩
    · show s.heap.objs.size < h'.objs.size
      rw [hsz]; exact Nat.lt_succ_self _
    · simp only [List.mem_cons, List.not_mem_nil, or_false, not_or]
      exact ⟨Nat.ne_of_gt ltz, Nat.ne_of_gt ltT, Nat.ne_of_gt ltO, Nat.ne_of_gt lt1, Nat.ne_of_gt lt2, Nat.ne_of_gt ltS⟩
/-- the pairs at Ts -/
def Prs (H : Hp) (xs ys : List V) (Ts : List Addr) : Prop := ∀ (j : Nat) (T : Addr) (x y : V), Ts[j]? = some T → xs[j]? = some x → ys[j]? = some y → H T = some (.tup [x, y])
theorem zip_loop {A : Around} {R : Result → Shared → Prop} (hh : A.handled = none) (D : ZipApart z TI TO i1 i2 a b) (nS : S ∉ [z, TI, TO, i1, i2]) (hl : xs.length = ys.length) (hn : xs.length ≤ sizeLine) :
    ∀ (k i : Nat) (s : Shared) (H : Hp) (Ts : List Addr) (c : Nat), xs.length - i = k → i ≤ xs.length → Inv X pins σ H s → (∀ b ∈ [z, TI, TO, i1, i2, S], FpOk X pins H b) → SqL X.K H a xs → SqL X.K H b ys → ZSt a b z TI TO i1 i2 i s.heap →
    Ts.length = i → Prs H xs ys Ts → s.heap.get? S = some (lstO Ts c) →
    (∀ s' H' Ts' c', Inv X pins σ H' s' → Ts'.length = xs.length → L2.Same H H' → Prs H' xs ys Ts' → s'.heap.get? S = some (lstO Ts' c') → R (.ok (.ret (.ref S))) s') →
    codeAny (model X.prog X.w) A (.builtin "list.extend.loop" ⟨[.ref S, .ref z, .ref S], []⟩) R s := by
  intro k
  induction k with
  | zero =>
    intro i s H Ts c hk hi I hf hqx hqy Z lT hP hS hR
    have hin : i = xs.length := by omega
    subst hin
    refine codeAny_builtin F.entry_extend_loop ?_
    rw [Around.under_plainId F.plain_extend_loop _]
    show wpAny _ A.in1 (pyNext (.ref z) >>= _) _ _ s
    have hf5 : ∀ b ∈ [z, TI, TO, i1, i2], FpOk X pins H b := fun b hb => hf b (by simp only [List.mem_cons, List.not_mem_nil, or_false] at hb ⊢; rcases hb with h | h | h | h | h <;> simp [h])
    have Szz : S ≠ z := fun e => nS (by simp [e])
    have Sto : S ≠ TO := fun e => nS (by simp [e])
    have S1 : S ≠ i1 := fun e => nS (by simp [e])
    have S2 : S ≠ i2 := fun e => nS (by simp [e])
    obtain ⟨its, rv, p, _⟩ := I.list hqx
    obtain ⟨its2, rv2, p2, _⟩ := I.list hqy
    have l1 := rv.length
    obtain ⟨h1, h2, hTI, ⟨oO, gO⟩, st⟩ := Z
    rcases st with ⟨hz, x0, y0, hTO⟩ | ⟨T, f, oT, hz, hT, nT⟩
    · refine wpAny_bind (wpAny_pyNext_zip_end hh D hz hTI hTO h1 h2 p.isList p2.isList (.inl (by simp; omega)) fun h' hk => ?_)
      refine wpAny_pure (hR _ H Ts c (I.turnedL (t' := s.toks) (ch := [z, TI, TO, i1, i2]) (fun c o hb q => hk c o (fun q' => hb (by simp [q'])) (fun q' => hb (by simp [q'])) (fun q' => hb (by simp [q'])) (fun q' => hb (by simp [q'])) q) hf5) lT (fun _ _ e => e) hP (hk _ _ Szz Sto S1 S2 hS))
    · refine wpAny_bind (wpAny_pyNext_zip_end_held hh D hz hT hTI h1 h2 p.isList p2.isList (.inl (by simp; omega)) fun h' hk => ?_)
      refine wpAny_pure (hR _ H Ts c (I.turnedL (t' := s.toks) (ch := [z, TI, TO, i1, i2]) (fun c o hb q => hk c o (fun q' => hb (by simp [q'])) (fun q' => hb (by simp [q'])) (fun q' => hb (by simp [q'])) q) hf5) lT (fun _ _ e => e) hP (hk _ _ Szz S1 S2 hS))
  | succ k ih =>
    intro i s H Ts c hk hi I hf hqx hqy Z lT hP hS hR
    have hlt : i < xs.length := by omega
    refine codeAny_builtin F.entry_extend_loop ?_
    rw [Around.under_plainId F.plain_extend_loop _]
    show wpAny _ A.in1 (pyNext (.ref z) >>= _) _ _ s
    have hf5 : ∀ b ∈ [z, TI, TO, i1, i2], FpOk X pins H b := fun b hb => hf b (by simp only [List.mem_cons, List.not_mem_nil, or_false] at hb ⊢; rcases hb with h | h | h | h | h <;> simp [h])
    have hx : xs[i]? = some xs[i] := List.getElem?_eq_getElem hlt
    have hy : ys[i]? = some (ys[i]'(by omega)) := List.getElem?_eq_getElem (by omega)
    refine wpAny_bind (thn (zip_step (S := S) D nS I hf5 hqx hqy Z hS hx hy) fun r s1 ⟨er, I1, Z1, hS1, lt, nin⟩ => ?_)
    subst er
    have nT : H s.heap.objs.size = none := I.hok.fresh (Nat.le_refl _)
    have sm : L2.Same H (upd H s.heap.objs.size (.tup [xs[i], ys[i]'(by omega)])) := Same.at_new nT
    have hf1 : ∀ b ∈ [z, TI, TO, i1, i2, S], FpOk X pins (upd H s.heap.objs.size (.tup [xs[i], ys[i]'(by omega)])) b := fun b hb => by
      obtain ⟨g0, g⟩ := hf b hb
      exact ⟨by rw [upd_ne (fun e => nin (by rw [← e]; exact hb))]; exact g0, g⟩
    show wpAny _ A.in1 (updateSeq S (·.push (.ref s.heap.objs.size)) >>= _) _ _ _
    refine wpAny_bind ?_
    have e2 : (Ts.map Value.ref).toArray.push (.ref s.heap.objs.size) = ((Ts ++ [s.heap.objs.size]).map Value.ref).toArray := by simp
    refine wpAny_updateSeq hS1 rfl (wpAny_pure ⟨plainId_quiet F.plain_extend_loop _, ?_⟩) (by simp; omega) (by simp; omega)
    have hS2 := Heap.get?_update_self (Obj.mapSeq (·.push (Value.ref s.heap.objs.size))) hS1 rfl
    have I2 : Inv X pins σ (upd H s.heap.objs.size (.tup [xs[i], ys[i]'(by omega)])) { s1 with heap := s1.heap.update S (Obj.mapSeq (·.push (Value.ref s.heap.objs.size))) } :=
      I1.turnedL (t' := s1.toks) (ch := [S]) (fun c o hb q => (Heap.get?_update_other _ _ (fun e : S = c => hb (by simp [e]))).trans q) (fun b hb => hf1 b (by simp only [List.mem_singleton] at hb; simp [hb]))
    have oth : ∀ c o, c ≠ S → s1.heap.get? c = some o → (s1.heap.update S (Obj.mapSeq (·.push (Value.ref s.heap.objs.size)))).get? c = some o := fun c o hc q => (Heap.get?_update_other _ _ hc.symm).trans q
    have Z2 : ZSt a b z TI TO i1 i2 (i + 1) (s1.heap.update S (Obj.mapSeq (·.push (Value.ref s.heap.objs.size)))) := by
      obtain ⟨h1, h2, hTI, ⟨oO, gO⟩, st⟩ := Z1
      refine ⟨h1.at fun o q => oth _ o (fun e => nS (by simp [← e])) q, h2.at fun o q => oth _ o (fun e => nS (by simp [← e])) q, oth _ _ (fun e => nS (by simp [← e])) hTI, ⟨oO, oth _ _ (fun e => nS (by simp [← e])) gO⟩, ?_⟩
      rcases st with ⟨hz, x0, y0, hTO⟩ | ⟨T, f, oT, hz, hT, nT⟩
      · exact .inl ⟨oth _ _ (fun e => nS (by simp [← e])) hz, x0, y0, oth _ _ (fun e => nS (by simp [← e])) hTO⟩
      · by_cases hTS : T = S
        · subst hTS
          exact .inr ⟨T, f, _, oth _ _ (fun e => nS (by simp [← e])) hz, hS2, nT⟩
        · exact .inr ⟨T, f, oT, oth _ _ (fun e => nS (by simp [← e])) hz, oth _ _ hTS hT, nT⟩
    have hqx1 : SqL X.K (upd H s.heap.objs.size (.tup [xs[i], ys[i]'(by omega)])) a xs := sm.seq hqx
    have hqy1 : SqL X.K (upd H s.heap.objs.size (.tup [xs[i], ys[i]'(by omega)])) b ys := sm.seq hqy
    refine ih (i + 1) _ _ (Ts ++ [s.heap.objs.size]) (c + 1) (by omega) hlt I2 hf1 hqx1 hqy1 Z2 (by rw [List.length_append, lT]; rfl) (fun j T x y hT hx' hy' => ?_) ?_ (fun s' H' Ts' c' I' l' sm' P' S' => hR s' H' Ts' c' I' l' (fun p o e => sm' p o (sm p o e)) P' S')
    · by_cases hj : j < Ts.length
      · rw [List.getElem?_append_left hj] at hT
        exact sm _ _ (hP j T x y hT hx' hy')
      · rw [List.getElem?_append_right (by omega)] at hT
        have hj' : j - Ts.length < [s.heap.objs.size].length := (List.getElem?_eq_some_iff.mp hT).1
        have ej : j = i := by simp at hj'; omega
        subst ej
        rw [lT, Nat.sub_self] at hT
        cases hT
        rw [hx] at hx'
        rw [hy] at hy'
        cases hx'
        cases hy'
        exact upd_same
    · rw [hS2]
      simp [lstO, Obj.mapSeq]
theorem collect_zip {A : Around} {E : Value → Shared → Prop} {Q : List Value → Shared → Prop} {s : Shared} {H : Hp} (hh : A.handled = none) (D : ZipApart z TI TO i1 i2 a b) (hl : xs.length = ys.length) (hn : xs.length ≤ sizeLine)
    (I : Inv X pins σ H s) (hf : ∀ b ∈ [z, TI, TO, i1, i2], FpOk X pins H b) (hqx : SqL X.K H a xs) (hqy : SqL X.K H b ys) (Z : ZSt a b z TI TO i1 i2 0 s.heap) (hz : IsZip s.heap z TI TO .none)
    (hQ : ∀ s' H' Ts', Inv X pins σ H' s' → Ts'.length = xs.length → L2.Same H H' → Prs H' xs ys Ts' → Q (Ts'.map Value.ref) s') :
    wpAny (model X.prog X.w) A (collect (.ref z)) Q E s := by
  have lt1 : i1 < s.heap.objs.size := by obtain ⟨_, e, _⟩ := Z.h1; exact Heap.lt_size e
  have lt2 : i2 < s.heap.objs.size := by obtain ⟨_, e, _⟩ := Z.h2; exact Heap.lt_size e
  have ltT : TI < s.heap.objs.size := Heap.lt_size Z.hTI
  have ltO : TO < s.heap.objs.size := by obtain ⟨_, e⟩ := Z.hTO; exact Heap.lt_size e
  have ltz : z < s.heap.objs.size := Heap.lt_size hz
  have nS : s.heap.objs.size ∉ [z, TI, TO, i1, i2] := by
    simp only [List.mem_cons, List.not_mem_nil, or_false, not_or]
    exact ⟨Nat.ne_of_gt ltz, Nat.ne_of_gt ltT, Nat.ne_of_gt ltO, Nat.ne_of_gt lt1, Nat.ne_of_gt lt2⟩
  have hSI : s.heap.objs.size ≠ z := Nat.ne_of_gt ltz
  unfold collect
  refine wpAny_bind (wpAny_runValue (codeAny_builtin F.entry_proto_collect ?_))
  rw [Around.under_plainId F.plain_proto_collect _]
  show wpAny _ A.in1 (newList [] >>= fun l => again (.builtin "list.__iadd__" ⟨[l, .ref z], []⟩)) _ _ s
  refine wpAny_bind (wpAny_newObj_type ?_)
  refine wpAny_pure ⟨plainId_quiet F.plain_list_iadd _, codeAny_builtin F.entry_list_iadd ?_⟩
  rw [Around.under_plainId F.plain_list_iadd _]
  show wpAny _ A.in1 (Builtin.List.listExtendWith (.ref s.heap.objs.size) (.ref z) (.ref s.heap.objs.size)) _ _ _
  have up : ∀ c o, s.heap.get? c = some o → (s.heap.push { cls := .type "list", data := .seq ([] : List Value).toArray }).get? c = some o := fun c o e => Heap.get?_push_of_some _ e
  have hz₁ := up _ _ hz
  have hT : Shared.TypeIs { s with heap := s.heap.push { cls := .type "list", data := .seq ([] : List Value).toArray } } (.ref z) "zip" := ⟨_, hz₁, rfl⟩
  unfold Builtin.List.listExtendWith
  refine wpAny_bind (wpAny_typeOf hT ?_)
  have h1 : Builtin.List.listSameRef (.ref s.heap.objs.size) (.ref z) = false := by simp [Builtin.List.listSameRef, hSI]
  have h2 : (Value.type "zip" == Value.type "list") = false := by decide
  have h3 : (Value.type "zip" == Value.type "tuple") = false := by decide
  simp only [h1, h2, h3, Bool.or_false, Bool.false_eq_true, if_false]
  refine wpAny_bind (wpAny_pyIter_zip hz₁ ?_)
  refine wpAny_bind (wpAny_holding ?_)
  unfold Builtin.List.listLengthHint
  refine wpAny_bind (wpAny_specialOf hT zip_no_len ?_)
  show wpAny _ A.in1 (specialOf (Value.ref z) (Str.ofString "__length_hint__") >>= _) _ _ _
  refine wpAny_bind (wpAny_specialOf hT zip_no_hint ?_)
  refine wpAny_pure ?_
  show wpAny _ A.in1 (rule "list.extend.makes-room" >>= fun _ => Builtin.List.listTouch (.ref s.heap.objs.size) >>= fun _ =>
    again (.builtin "list.extend.loop" ⟨[.ref s.heap.objs.size, .ref z, .ref s.heap.objs.size], []⟩)) _ _ _
  refine wpAny_bind (wpAny_rule ?_)
  have hS₁ : (s.heap.push { cls := .type "list", data := .seq ([] : List Value).toArray }).get? s.heap.objs.size = some { cls := .type "list", data := .seq ([] : List Value).toArray } := Heap.get?_push_size _ rfl
  refine wpAny_bind ?_
  show wpAny _ A.in1 (updateSeq s.heap.objs.size (·.push .none) >>= fun _ => updateSeq s.heap.objs.size (·.pop)) _ _ _
  refine wpAny_bind (wpAny_updateSeq hS₁ rfl ?_)
  have hS₂ := Heap.get?_update_self (Obj.mapSeq (·.push Value.none)) hS₁ rfl
  refine wpAny_updateSeq hS₂ rfl ?_
  have hS₃ := Heap.get?_update_self (Obj.mapSeq (·.pop)) hS₂ rfl
  have oth : ∀ b o, b ≠ s.heap.objs.size → (s.heap.push { cls := .type "list", data := .seq ([] : List Value).toArray }).get? b = some o →
      (((s.heap.push { cls := .type "list", data := .seq ([] : List Value).toArray }).update s.heap.objs.size (Obj.mapSeq (·.push Value.none))).update s.heap.objs.size (Obj.mapSeq (·.pop))).get? b = some o :=
    fun b o hb e => (Heap.get?_update_other _ _ (Ne.symm hb)).trans ((Heap.get?_update_other _ _ (Ne.symm hb)).trans e)
  have keep : ∀ b o, s.heap.get? b = some o → (((s.heap.push { cls := .type "list", data := .seq ([] : List Value).toArray }).update s.heap.objs.size (Obj.mapSeq (·.push Value.none))).update s.heap.objs.size (Obj.mapSeq (·.pop))).get? b = some o :=
    fun b o e => oth b o (Nat.ne_of_lt (Heap.lt_size e)) (up _ _ e)
  have I1 : Inv X pins σ H { s with heap := (((s.heap.push { cls := .type "list", data := .seq ([] : List Value).toArray }).update s.heap.objs.size (Obj.mapSeq (·.push Value.none))).update s.heap.objs.size (Obj.mapSeq (·.pop))) } := I.kept (t' := s.toks) keep
  have hf6 : ∀ b ∈ [z, TI, TO, i1, i2, s.heap.objs.size], FpOk X pins H b := fun b hb => by
    by_cases e : b = s.heap.objs.size
    · subst e
      exact I.fpOk (Nat.le_refl _) (I.hok.fresh (Nat.le_refl _))
    · refine hf b ?_
      simp only [List.mem_cons, List.not_mem_nil, or_false] at hb ⊢
      rcases hb with h | h | h | h | h | h
      · simp [h]
      · simp [h]
      · simp [h]
      · simp [h]
      · simp [h]
      · exact absurd h e
  have Z1 : ZSt a b z TI TO i1 i2 0 (((s.heap.push { cls := .type "list", data := .seq ([] : List Value).toArray }).update s.heap.objs.size (Obj.mapSeq (·.push Value.none))).update s.heap.objs.size (Obj.mapSeq (·.pop))) := by
    obtain ⟨h1, h2, hTI, ⟨oO, gO⟩, st⟩ := Z
    refine ⟨h1.at fun o q => keep _ o q, h2.at fun o q => keep _ o q, keep _ _ hTI, ⟨oO, keep _ _ gO⟩, ?_⟩
    rcases st with ⟨hz, x0, y0, hTO⟩ | ⟨T, f, oT, hz, hT, nT⟩
    · exact .inl ⟨keep _ _ hz, x0, y0, keep _ _ hTO⟩
    · exact .inr ⟨T, f, oT, keep _ _ hz, keep _ _ hT, nT⟩
  refine wpAny_pure ⟨plainId_quiet F.plain_extend_loop _, zip_loop (X := X) (pins := pins) (σ := σ) hh D nS hl hn _ 0 _ H [] _ rfl (Nat.zero_le _) I1 hf6 hqx hqy Z1 rfl (fun j T x y h => by simp at h) hS₃ fun s' H' Ts' c' I' l' sm P' hS' => ?_⟩
  show wpAny _ A (load s.heap.objs.size >>= _) _ _ s'
  refine wpAny_bind (wpAny_load hS' ?_)
  refine wpAny_pure ?_
  show Q ((Ts'.map Value.ref).toArray.toList) s'
  rw [List.toList_toArray]
  exact hQ s' H' Ts' I' l' sm P'
theorem code_tuple_new_zip {A : Around} {E : Value → Shared → Prop} {Q₁ : Value → Shared → Prop} {s : Shared} {H : Hp} (hh : A.handled = none) (D : ZipApart z TI TO i1 i2 a b) (hl : xs.length = ys.length) (hn : xs.length ≤ sizeLine)
    (I : Inv X pins σ H s) (hf : ∀ b ∈ [z, TI, TO, i1, i2], FpOk X pins H b) (hqx : SqL X.K H a xs) (hqy : SqL X.K H b ys) (Z : ZSt a b z TI TO i1 i2 0 s.heap) (hz : IsZip s.heap z TI TO .none)
    (h : ∀ s' H' Ts', Inv X pins σ H' s' → Ts'.length = xs.length → L2.Same H H' → Prs H' xs ys Ts' → Q₁ (.ref s'.heap.objs.size) { s' with heap := s'.heap.push { cls := .type "tuple", data := .seq (Ts'.map Value.ref).toArray } }) :
    codeAny (model X.prog X.w) A (.call (.builtin "tuple.__new__") ⟨[.type "tuple", .ref z], []⟩) (wants Q₁ E) s := by
  refine codeAny_of_tree ?_
  show wpAny _ A.in1 (do checkBuiltinCall "tuple.__new__" ⟨[.type "tuple", .ref z], []⟩; again (.builtin "tuple.__new__" ⟨[.type "tuple", .ref z], []⟩)) _ _ s
  refine wpAny_bind (wpAny_of_eq (F.newCall_tuple_1 _) (wpAny_pure ⟨plainId_quiet F.plain_tuple_new _, codeAny_builtin F.entry_tuple_new ?_⟩))
  rw [Around.under_plainId F.plain_tuple_new _]
  have hsub := sub_tuple_self
  have hinit := init_tuple_lookup
  have hmh := madeHere_tuple
  have hTI : s.TypeIs (.ref z) "zip" := ⟨_, hz, rfl⟩
  have hh1 : A.in1.handled = none := hh
  wp_walk using wpAny_typeOf hTI, collect_zip (X := X) (pins := pins) (σ := σ) (A := A.in1) hh1 D hl hn I hf hqx hqy Z hz
  intro s' H' Ts' I' l' sm P'
  show wpAny _ _ (Builtin.Tuple.tupleExact (Ts'.map Value.ref).toArray >>= fun v => ret v) _ _ _
  unfold Builtin.Tuple.tupleExact
  refine wpAny_bind (wpAny_newObj_type ?_ (by show (Ts'.map Value.ref).toArray.size ≤ sizeLine; simp; omega))
  refine wpAny_pure ?_
  exact h s' H' Ts' I' l' sm P'
theorem call_tuple_zip {A : Around} {E : Value → Shared → Prop} {Q : Value → Shared → Prop} {s : Shared} {H : Hp} (hh : A.handled = none) (D : ZipApart z TI TO i1 i2 a b) (hl : xs.length = ys.length) (hn : xs.length ≤ sizeLine)
    (I : Inv X pins σ H s) (hf : ∀ b ∈ [z, TI, TO, i1, i2], FpOk X pins H b) (hqx : SqL X.K H a xs) (hqy : SqL X.K H b ys) (Z : ZSt a b z TI TO i1 i2 0 s.heap) (hz : IsZip s.heap z TI TO .none)
    (hQ : ∀ s' H' Ts', Inv X pins σ H' s' → Ts'.length = xs.length → L2.Same H H' → Prs H' xs ys Ts' → Q (.ref s'.heap.objs.size) { s' with heap := s'.heap.push { cls := .type "tuple", data := .seq (Ts'.map Value.ref).toArray } }) :
    wpAny (model X.prog X.w) A (call (.type "tuple") [.ref z]) Q E s := by
  refine callType_codes (Q₁ := fun obj s₁ => s₁.TypeIs obj "tuple" ∧ Q obj s₁) F.called_tuple (F.typeCall_tuple_1 _) F.entry_object_init
    (code_tuple_new_zip (X := X) (pins := pins) (σ := σ) (A := A.in1) hh D hl hn I hf hqx hqy Z hz fun s' H' Ts' I' l' sm P' => ⟨⟨_, Heap.get?_push_size _ rfl, rfl⟩, hQ s' H' Ts' I' l' sm P'⟩) fun obj s₁ h₁ => ?_
  exact ⟨h₁.1, F.args_object_init_2 obj _, object_init_meets F.called_tuple.init.lookup F.called_tuple.made (by decide) X.prog X.w A.in1 _ s₁ ⟨h₁.1, rfl, h₁.2⟩⟩
end
/-- tuple(zip(xs, ys)) -/
def tTupZip (K : PySem.W.Frag) (ta : TA) : TE := fun σ H Q => ta σ H fun vs H1 => ∃ a b xs ys, vs = [.ref a, .ref b] ∧ SqL K H1 a xs ∧ SqL K H1 b ys ∧ xs.length = ys.length ∧ xs.length ≤ 1000 ∧
  ∀ Ts H2 q, Ts.length = xs.length → L2.Same H1 H2 → Prs H2 xs ys Ts → H2 q = none → Q (.ref q) (upd H2 q (.tup (Ts.map V.ref)))
theorem vals_refs : ∀ Ts : List Addr, Vals (Ts.map V.ref) (Ts.map Value.ref)
  | [] => .nil
  | _ :: t => .cons rfl (vals_refs t)
theorem pe_tupZip {X : Cx} {e e2 : Expr} {ta : TA} {p p2 q pos : Pos} (hg : Gl X "tuple") (hm : X.mg "tuple" = none) (hg2 : Gl X "zip") (hm2 : X.mg "zip" = none) (ha : PA X [e, e2] ta) (hc : X.calm = true := by rfl)
    (hs : starEach [e, e2] X.env = (false, eval e X.env) :: starEach [e2] X.env := by rfl) (hpl : (backTo q (starEach [e2] X.env)).any (·.1) = false := by rfl) :
    PE X (.Call (.Name "tuple" p) [.Call (.Name "zip" p2) [e, e2] [] q] [] pos) (tTupZip X.K ta) := by
  refine ⟨fun pins s σ H Q I h => ?_⟩
  refine Call_ (ld_blt I hg hm boot_tuple ?_)
  refine PyProof.Rows.callWith_type1 (PyProof.Rows.args_cons ?_ rfl) rfl rfl
  refine Call_ (ld_blt I hg2 hm2 PyProof.Rows.boot_zip (PyProof.Rows.callWith_type1 (thn (ha.run q pins s σ H _ I h) fun us s1 ⟨vs, H1, I1, r1, q1⟩ => ?_) hs hpl))
  obtain ⟨a, b, xs, ys, ex, hqx, hqy, hl, hn, q1⟩ := q1
  subst ex
  cases r1 with
  | cons r rr =>
    cases rr with
    | cons r' rr =>
      cases rr
      cases r
      cases r'
      obtain ⟨its, rv, p1, _⟩ := I1.list hqx
      obtain ⟨its2, rv2, p2, _⟩ := I1.list hqy
      refine call_zip_2 p1.isList p2.isList fun h' hz hTI hTO h1 h2 hsz hk => ?_
      refine PyProof.Rows.args_nil ?_
      have I2 : Inv X pins σ H1 { s1 with heap := h' } := I1.kept (t' := s1.toks) hk
      have fresh5 : ∀ c, c ∈ [s1.heap.objs.size + 4, s1.heap.objs.size + 2, s1.heap.objs.size + 3, s1.heap.objs.size, s1.heap.objs.size + 1] → FpOk X pins H1 c := fun c hcm => by
        have e' : c = s1.heap.objs.size + 4 ∨ c = s1.heap.objs.size + 2 ∨ c = s1.heap.objs.size + 3 ∨ c = s1.heap.objs.size ∨ c = s1.heap.objs.size + 1 := by simpa using hcm
        have hle : s1.heap.objs.size ≤ c := by
          rcases e' with z | z | z | z | z <;> rw [z] <;> first | exact Nat.le_refl _ | exact Nat.le_add_right _ _
        exact I1.fpOk hle (I1.hok.fresh hle)
      refine call_tuple_zip (X := X) (pins := pins) (σ := σ) (I1.ok.hd hc) (PySem.W.ktu_apart s1.heap.objs.size a b p1.lt p2.lt) hl (by rw [sizeLine_eq]; omega) I2 fresh5 hqx hqy ⟨h1, h2, hTI, ⟨_, hTO⟩, .inl ⟨hz, _, _, hTO⟩⟩ hz fun s' H' Ts' I' l' sm P' => ?_
      have new : ObjOk X.prog X.w (upd H' s'.heap.objs.size (.tup (Ts'.map V.ref))) (s'.heap.push { cls := .type "tuple", data := .seq (Ts'.map Value.ref).toArray }) s'.heap.objs.size (.tup (Ts'.map V.ref)) :=
        ⟨by rw [List.length_map, l', sizeLine_eq]; omega, Ts'.map Value.ref, vals_refs Ts', IsTup.new _ _⟩
      exact ⟨.ref s'.heap.objs.size, _, I'.laid (t' := s'.toks) (fun b o e => Heap.get?_push_of_some _ e) (Nat.le_refl _) new, rfl, q1 Ts' H' _ l' sm P' (I'.hok.fresh (Nat.le_refl _))⟩
end Z3

/-! set(l) of a list of integers, as a value that sorted takes. -/
namespace Own
open PySem PySem.Spec PyProof.Rows L2
section
variable {P : Program} {w : World} {A : Around} {E : Value → Shared → Prop} {s : Shared}
/-- the empty set as it is made -/
abbrev emO (w : World) : Obj := { cls := .type "set", dict := none, data := .set #[] 0 (.fresh 0 0 (!w.params.followText "set-order")) }
/-- a type is called: what it makes, the check of its init's arguments as a wish, its init -/
theorem made_by {T nw it : String} {B : Builtin} {xs : List Value} {Q Q1 : Value → Shared → Prop} (ft : TypeCalled T nw it) (c0 : checkTypeCall T ⟨xs, []⟩ = pure ()) (e0 : entryFor table it = some B)
    (mk : codeAny (model P w) A.in1 (.call (.builtin nw) ⟨.type T :: xs, []⟩) (wants Q1 E) s)
    (go : ∀ v z, Q1 v z → z.TypeIs v T ∧ (∀ {M' : Model} {A' : Around} {E' : Value → Shared → Prop} {Q' : Unit → Shared → Prop}, Q' () z → wpAny M' A' (checkBuiltinCall it ⟨v :: xs, []⟩) Q' E' z) ∧
      wpAny (model P w) A.in1.in1 (B ⟨v :: xs, []⟩)
        (fun d z' => match d with | .done f => wants (fun r z2 => r = .none ∧ Q v z2) E (.ok f) z' | .again k => k.quiet = true ∧ codeAny (model P w) A.in1 k (wants (fun r z2 => r = .none ∧ Q v z2) E) z')
        (fun e z' => wants (fun r z2 => r = .none ∧ Q v z2) E (.error e) z') z) :
    wpAny (model P w) A (call (.type T) xs) Q E s := by
  have ⟨k, ks, km⟩ := ft.mro
  have k1 := ft.made
  have k2 := ft.sub
  have k3 := ft.notType
  have k4 := ft.canCreate
  apply wpAny_call; apply codeAny_of_tree
  change wpAny (model P w) _ (callAny (Value.type T) ⟨xs, []⟩) _ _ _
  apply wpAny_pure; refine ⟨Code.quiet_builtin _ (by decide +kernel), ?_⟩
  apply codeAny_builtin F.entry_type_call
  rw [Around.under_plain (weight_type_call_type T xs []) rfl]
  repeat any_goals first | wp_step | assumption
  refine codeAny_mono mk ?_
  rintro (v | fl) z hz
  · exact hz
  · cases fl with
    | ret v =>
      obtain ⟨y1, y2, y3⟩ := go v z hz
      have k5 := ft.init.lookup
      have k6 := ft.init.bind v
      repeat any_goals first | wp_step | assumption
      refine codeAny_mono (codeAny_call_builtin ft.init.plain e0 (y2 y3)) ?_
      rintro (x | g) z2 hz2
      · exact hz2
      · cases g with
        | ret x =>
          obtain ⟨rfl, hq⟩ := hz2
          repeat any_goals first | wp_step | assumption
        | _ => exact hz2.elim
    | _ => exact hz.elim
theorem sets_of_list {l : Addr} {items : Array Value} (ns : List Int) {Q : Value → Shared → Prop} (hh : A.handled = none) (hl : s.heap.IsList l items) (hi : IntsAre items.toList ns) (few : ns.length < 64)
    (q : ∀ (h2 : Heap) (t2 c : Nat), c ≤ ns.length → SetR w h2 s.heap.objs.size (fun j => decide (j ∈ ns)) c → (∀ b o, s.heap.get? b = some o → h2.get? b = some o) → Q (.ref s.heap.objs.size) { s with heap := h2, toks := t2 }) :
    wpAny (model P w) A (call (.type "set") [Value.ref l]) Q E s := by
  have sz : items.size = ns.length := (Array.length_toList (xs := items)).symm.trans (IntsAre.length hi)
  refine made_by F.called_set (F.typeCall_set_1 _) F.entry_set_init (code_set_led1 _ (Q₁ := fun r z => r = .ref s.heap.objs.size ∧ z = { s with heap := s.heap.push (emO w) }) ⟨rfl, rfl⟩) ?_
  rintro _ _ ⟨rfl, rfl⟩
  have got : (s.heap.push (emO w)).get? s.heap.objs.size = some (emO w) := Heap.get?_push_size _ rfl
  refine ⟨⟨_, got, rfl⟩, fun y => check_set_init_1 ⟨_, got, rfl⟩ y, ?_⟩
  have hl2 : (s.heap.push (emO w)).IsList l items := hl.at fun o e => Heap.get?_push_of_some _ e
  obtain ⟨⟨oc, od, oa, os⟩, el, cl, cn, dl⟩ := id hl2
  dsimp only at cl dl
  subst cl dl
  have lS : l < s.heap.objs.size := by
    obtain ⟨o, e, _⟩ := hl
    exact Heap.lt_size e
  have no1 := F.sub_list_set
  have no2 := F.sub_list_frozenset
  have no3 : (Value.type "list" == Value.type "dict") = false := by decide
  unfold Builtin.«set.__init__»
  unfold noKeywords
  unfold Builtin.Frozenset.updateFrom
  generalize hPI : pyIter = PI
  wp_walk
  subst hPI
  refine wpAny_pyIter_list hl2 ?_
  refine wpAny_bind ?_
  refine wpAny_runValue ?_
  have n1 : (s.heap.push (emO w)).objs.size = s.heap.objs.size + 1 := Heap.size_push ..
  have ne1 : l ≠ (s.heap.push (emO w)).objs.size := by
    rw [n1]
    exact Nat.ne_of_lt (Nat.lt_succ_of_lt lS)
  refine set_update_ints ((Walks.list (by simp [hh]) _ l ne1 items).toS) s.heap.objs.size ?_ ns sz (by unfold scanBound; omega) (fun i v hv => ?_) (items.size - 0) 0 _ (by omega) (Nat.zero_le _) ⟨⟨_, Heap.get?_push_size _ rfl, rfl, rfl⟩, hl2.push _⟩ ⟨0, Nat.le_refl 0, setR_new_at (Heap.get?_push_of_some _ got)⟩ (fun z c mv hc R => ?_)
  · simp only [List.mem_cons, List.not_mem_nil, or_false, not_or]
    rw [n1]
    exact ⟨Nat.ne_of_lt (Nat.lt_succ_self _), Nat.ne_of_gt lS⟩
  · have hv : items[i]? = some v := hv
    obtain ⟨t, e⟩ := IntsAre.int_at hi i v (by rw [Array.getElem?_toList]; exact hv)
    have li : i < ns.length := by
      rw [← sz]
      exact (Array.getElem?_eq_some_iff.mp hv).1
    exact ⟨_, t, List.getElem?_eq_getElem li, by rw [e, List.getD_eq_getElem?_getD, List.getElem?_eq_getElem li]; rfl⟩
  · obtain ⟨h2, g2, d2, t2, o2⟩ := z
    obtain rfl : g2 = s.gens := mv.gens
    obtain rfl : d2 = s.drawn := mv.drawn
    obtain rfl : o2 = s.os := mv.os
    refine wpAny_pure (wpAny_pure ⟨rfl, q h2 t2 c (by omega) R fun b o e => ?_⟩)
    have lb : b < s.heap.objs.size := Heap.lt_size e
    refine mv.heap b o ?_ (Heap.get?_push_of_some _ (Heap.get?_push_of_some _ e))
    rw [n1]
    simp only [List.mem_cons, List.not_mem_nil, or_false, not_or]
    exact ⟨Nat.ne_of_lt lb, Nat.ne_of_lt (Nat.lt_succ_of_lt lb)⟩
def rSetL (K : PySem.W.Frag) (w : World) : List V → Hp → VK → Prop := fun xs H Q => ∃ (l : Addr) (ns : List Int), xs = [.ref l] ∧ SqL K H l (ns.map V.int) ∧ ns.length < 64 ∧ ∀ (p : Addr) (c : Nat), c ≤ ns.length → H p = none → Q (.ref p) (upd H p (SetO w p (fun j => decide (j ∈ ns)) c))
theorem cr_setL {X : Cx} (hc : X.calm = true) : CallR X (.type "set") (rSetL X.K X.w) := by
  intro pins s σ H xs us Q I r h
  obtain ⟨l, ns, rfl, hs, few, q⟩ := h
  rw [Vals.ref1 r]
  obtain ⟨its, rv, pl, hz⟩ := I.list hs
  refine sets_of_list (P := X.prog) (w := X.w) ns (I.ok.hd hc) pl.isList (by simpa using ints_of_vals rv) few fun h2 t2 c hc2 R k => ?_
  exact ⟨.ref s.heap.objs.size, upd H s.heap.objs.size (SetO X.w s.heap.objs.size (fun j => decide (j ∈ ns)) c), I.laid (t' := t2) k (Nat.le_refl _) (setO_new R), rfl, q _ c hc2 (I.hok.fresh (Nat.le_refl _))⟩
end
end Own

namespace M57
open PySem PySem.Spec PyProof.Rows L2 SX Own Gd
open C8 (Cal pe_c pe_gc pe_mk Mak pss_cut)
def topS (i : Nat) : Stmt := PySem.Challenge.pw_paperbest_k57_whole_thresholds_of_differ.main.body.getD i (.Pass ⟨0, 0, 0, 0⟩)
def inS (i j : Nat) : Stmt := match topS i with
  | .ClassDef _ _ _ b _ _ _ _ _ _ _ => b.getD j (.Pass ⟨0, 0, 0, 0⟩)
  | s => s
def wordsL : List Str := ["and", "bench", "if", "least", "or", "room", "round", "table", "then", "unlike"]
/-- what the text's top has: the tuple of words at aW, the dict of tests at aT -/
structure Txt (K : PySem.W.Frag) (mg : Str → Option Value) (w : World) (aW aT : Addr) (es : Array DictEntry) (n : Nat) : Prop where
  b_len : mg "len" = none
  b_range : mg "range" = none
  b_int : mg "int" = none
  b_abs : mg "abs" = none
  b_all : mg "all" = none
  b_sum : mg "sum" = none
  b_repr : mg "repr" = none
  b_tuple : mg "tuple" = none
  b_bool : mg "bool" = none
  b_str : mg "str" = none
  b_zip : mg "zip" = none
  b_any : mg "any" = none
  b_set : mg "set" = none
  b_enumerate : mg "enumerate" = none
  b_isinstance : mg "isinstance" = none
  b_sorted : mg "sorted" = none
  g_gcd : mg "gcd" = some (.builtin "math.gcd")
  g_lcm : mg "lcm" = some (.builtin "math.lcm")
  c_LONGEST_NAME : ∃ u, mg "LONGEST_NAME" = some u ∧ RelV (.int 6) u
  c_LETTERS : ∃ u, mg "LETTERS" = some u ∧ RelV (.str "abcdefghijklmnopqrstuvwxyz") u
  c_WORDS : ∃ u, mg "WORDS" = some u ∧ RelV (.ref aW) u
  c_WISH_TESTS : ∃ u, mg "WISH_TESTS" = some u ∧ RelV (.ref aT) u
  qW : ∀ H, SqT K H aW (wordsL.map V.str)
  kd : KDict K w aT es n
/-! ### integers in tuples -/
def tI (a : List Int) : HO := .tup (a.map V.int)
def LV (H : Hp) (v : V) (a : List Int) : Prop := ∃ q, v = .ref q ∧ H q = some (tI a)
theorem LV.same {H H' : Hp} {v : V} {a : List Int} (h : LV H v a) (s : Same H H') : LV H' v a := by
  obtain ⟨q, e, f⟩ := h
  exact ⟨q, e, s _ _ f⟩
theorem at_map {α : Type} {f : α → V} {a : List α} {i : Nat} {x : V} (h : (a.map f)[i]? = some x) : ∃ c, a[i]? = some c ∧ x = f c := by
  rw [List.getElem?_map] at h
  obtain ⟨c, hc, e⟩ := Option.map_eq_some_iff.mp h
  exact ⟨c, hc, e.symm⟩
theorem small1000 {n : Nat} (h : n < 1000) : n < sizeLine := by rw [sizeLine_eq]; omega
theorem small1001 {n : Nat} (h : n ≤ 1000) : n ≤ sizeLine := by rw [sizeLine_eq]; omega
theorem take_one {α : Type} {a : List α} {i : Nat} {c : α} (h : a[i]? = some c) : a.take (i + 1) = a.take i ++ [c] := by rw [List.take_add_one, h]; rfl
/-- each less than the next one -/
def Inc (a : List Int) : Prop := ∀ i x y, a[i]? = some x → a[i + 1]? = some y → x < y
def Within (n : Nat) (a : List Int) : Prop := ∀ c ∈ a, 0 ≤ c ∧ c < n
theorem reps {i : Nat} : (List.replicate i true).all id = true := by simp
theorem rep_app {i : Nat} : (List.replicate (i + 1) true).map V.bl = (List.replicate i true).map V.bl ++ [V.bl true] := by rw [List.replicate_succ', List.map_append]; rfl
theorem cut_tail {xs : List V} (h : 1 ≤ xs.length) : cutV xs (some 1) none = xs.drop 1 := by
  unfold cutV
  rw [show (some 1 : Option Int) = some ((1 : Nat) : Int) from rfl, HT.sIx_nat, HT.sIx_none, Nat.min_eq_left h, List.take_of_length_le (by rw [List.length_drop]; omega)]
section
variable {P : Program} {w : World} {K : PySem.W.Frag} {mg : Str → Option Value} {base : Heap} {aW aT : Addr} {es : Array DictEntry} {nn : Nat}
abbrev s_is_whole : Stmt := topS 6
abbrev n_is_whole : List Str := ["value"]
theorem sc_is_whole : FnScope n_is_whole ["value"] (defScope s_is_whole) := ⟨rfl, rfl, rfl, by decide +kernel, rfl, by decide +kernel, by decide +kernel⟩
def spWhole : Sp := fun vs H Q _ => ∃ i : Int, vs = [.int i] ∧ Q (.bl true) H
theorem ok_is_whole {f : Addr} {fd : FuncData} (F : Fun K "is_whole" "is_whole" s_is_whole f fd) (T : Txt K mg w aW aT es nn) : FnOk P w K mg base CX0 1 f fd ["value"] spWhole := by
  refine F.ok sc_is_whole (fun vs H Q E h => ?_) (fun cdv A outer s H vs Q E hr h => ?_)
  · obtain ⟨i, rfl, _⟩ := h
    rfl
  · obtain ⟨i, rfl, q⟩ := h
    refine ⟨_, (pss_one (ps_ret (pe_and (pe_callB call_isE (by rfl) T.b_isinstance (by decide +kernel) (pa_cons (pv 0) (pa_cons (pe_bltn (v := .ty "int") (by rfl) T.b_int boot_int rfl) pa_nil))) (pe_one (pe_not (pe_callB call_isE (by rfl) T.b_isinstance (by decide +kernel) (pa_cons (pv 0) (pa_cons (pe_bltn (v := .ty "bool") (by rfl) T.b_bool boot_bool rfl) pa_nil)))))))), ?_⟩
    exact ⟨_, rfl, .int i, .type "int", "int", true, rfl, .base (.base (.int i)), by rfl, true, rfl, iteT ⟨_, rfl, .int i, .type "int", "bool", false, rfl, .base (.base (.int i)), by rfl, false, rfl, q⟩⟩
abbrev s_is_places : Stmt := topS 16
abbrev n_is_places : List Str := ["value", "size", "item"]
theorem sc_is_places : FnScope n_is_places ["value", "size"] (defScope s_is_places) := ⟨rfl, rfl, rfl, by decide +kernel, rfl, by decide +kernel, by decide +kernel⟩
def spPlaces : Sp := fun vs H Q _ => ∃ (v : V) (n : Nat) (a : List Int), vs = [v, .int n] ∧ LV H v a ∧ Within n a ∧ a.length ≤ 1000 ∧ ∀ H', Same H H' → Q (.bl true) H'
theorem ok_is_places {f : Addr} {fd : FuncData} (F : Fun K "is_places" "is_places" s_is_places f fd) (T : Txt K mg w aW aT es nn) (c_is_whole : Cal P w K mg base 1 "is_whole" spWhole []) : FnOk P w K mg base CX0 2 f fd ["value", "size"] spPlaces := by
  refine F.ok sc_is_places (fun vs H Q E h => ?_) (fun cdv A outer s H vs Q E hr h => ?_)
  · obtain ⟨v, n, a, rfl, _⟩ := h
    rfl
  · obtain ⟨v, n, a, rfl, ⟨p, rfl, hp⟩, wi, la, q⟩ := h
    refine ⟨_, (pss_cons (ps_if (pt_not (pt_val (pe_callB call_isE (by rfl) T.b_isinstance (by decide +kernel) (pa_cons (pv 0) (pa_cons (pe_bltn (v := .ty "tuple") (by rfl) T.b_tuple boot_tuple rfl) pa_nil))))) (pss_one (ps_ret pe_bl)) pss_nil)
      (pss_one (ps_ret (pe_callB (cr_all rfl) (by rfl) T.b_all (by decide +kernel) (pa_cons (pe_lc (own := [("item", 2)]) rfl sc_is_places.nd (pi_tup (pv 0)) (blkOk_by (N := n_is_places) (sc := defScope s_is_places) (by decide +kernel)) (fun _ _ _ _ _ => (pg_name (i := 2) sc_is_places.nd rfl (.inl rfl))) (fun _ _ _ _ _ => pts_nil) (fun _ _ _ _ _ => (pe_and (pe_c c_is_whole hr (by decide) (by rfl) (pa_cons (pv 2) pa_nil)) (pe_one (pe_chain op_le op_lt pe_int (pv 2) (pv 1)))))) pa_nil))))), ?_⟩
    refine ⟨_, rfl, .ref p, .type "tuple", "tuple", true, rfl, .base (.base (.tup hp)), by rfl, true, rfl, iteF ?_⟩
    refine ⟨_, rfl, p, rfl, ⟨_, sq_tup hp⟩, fun D nD => ?_⟩
    refine lc_tup (K := K) (a := p) (xs := a.map V.int) (fun i H' => H' D = some (.lst ((List.replicate i true).map V.bl)) ∧ Same H H') ⟨upd_same, same_upd nD⟩ (fun i H' _ h => sq_tup (h.2 _ _ hp)) ?_ ?_
    · rintro i x H2 hx ⟨hD, sm⟩
      obtain ⟨c, hc, rfl⟩ := at_map hx
      have li : i < a.length := (List.getElem?_eq_some_iff.mp hc).1
      obtain ⟨c0, c1⟩ := wi c (List.mem_of_getElem? hc)
      refine ⟨rfl, _, rfl, c, rfl, true, rfl, iteT ⟨_, rfl, _, _, rfl, rfl, _, rfl, ite2 (fun _ => ?_) (fun h => absurd (decide_eq_true c0) h)⟩⟩
      refine ⟨_, rfl, _, _, rfl, rfl, _, hD, (by rw [List.length_map, List.length_replicate]; exact small1000 (by omega)), ?_, same_at sm nD⟩
      rw [upd_same, rep_app, show (fun i j : Int => V.bl (decide (i < j))) c n = V.bl true from congrArg V.bl (decide_eq_true c1)]
    · rintro H2 ⟨hD, sm⟩
      refine ⟨D, _, rfl, sq_lst hD, ?_⟩
      rw [reps]
      exact q _ sm
abbrev s_is_integers : Stmt := topS 17
abbrev n_is_integers : List Str := ["value", "many", "item"]
theorem sc_is_integers : FnScope n_is_integers ["value", "many"] (defScope s_is_integers) := ⟨rfl, rfl, rfl, by decide +kernel, rfl, by decide +kernel, by decide +kernel⟩
def spInts : Sp := fun vs H Q _ => ∃ (v : V) (a : List Int), vs = [v, .int (a.length : Nat)] ∧ LV H v a ∧ a.length ≤ 1000 ∧ ∀ H', Same H H' → Q (.bl true) H'
theorem ok_is_integers {f : Addr} {fd : FuncData} (F : Fun K "is_integers" "is_integers" s_is_integers f fd) (T : Txt K mg w aW aT es nn) (c_is_whole : Cal P w K mg base 1 "is_whole" spWhole []) : FnOk P w K mg base CX0 2 f fd ["value", "many"] spInts := by
  refine F.ok sc_is_integers (fun vs H Q E h => ?_) (fun cdv A outer s H vs Q E hr h => ?_)
  · obtain ⟨v, a, rfl, _⟩ := h
    rfl
  · obtain ⟨v, a, rfl, ⟨p, rfl, hp⟩, la, q⟩ := h
    refine ⟨_, (pss_cons (ps_if (PW.pt (pw_or (pt_not (pt_val (pe_callB call_isE (by rfl) T.b_isinstance (by decide +kernel) (pa_cons (pv 0) (pa_cons (pe_bltn (v := .ty "tuple") (by rfl) T.b_tuple boot_tuple rfl) pa_nil))))) (pw_or1 (pt_cmpR op_ne (pe_callB call_len_seq (by rfl) T.b_len (by decide +kernel) (pa_cons (pv 0) pa_nil)) (pv 1) (nomark _))))) (pss_one (ps_ret pe_bl)) pss_nil)
      (pss_one (ps_ret (pe_callB (cr_all rfl) (by rfl) T.b_all (by decide +kernel) (pa_cons (pe_lc (own := [("item", 2)]) rfl sc_is_integers.nd (pi_tup (pv 0)) (blkOk_by (N := n_is_integers) (sc := defScope s_is_integers) (by decide +kernel)) (fun _ _ _ _ _ => (pg_name (i := 2) sc_is_integers.nd rfl (.inl rfl))) (fun _ _ _ _ _ => pts_nil) (fun _ _ _ _ _ => (pe_c c_is_whole hr (by decide) (by rfl) (pa_cons (pv 2) pa_nil)))) pa_nil))))), ?_⟩
    refine ⟨_, rfl, .ref p, .type "tuple", "tuple", true, rfl, .base (.base (.tup hp)), by rfl, true, rfl, iteF ?_⟩
    refine ⟨_, rfl, p, _, rfl, .inr (sq_tup hp), _, rfl, rfl, _, rfl, ite2 (fun h => absurd h (by simp)) (fun _ => ?_)⟩
    refine ⟨_, rfl, p, rfl, ⟨_, sq_tup hp⟩, fun D nD => ?_⟩
    refine lc_tup (K := K) (a := p) (xs := a.map V.int) (fun i H' => H' D = some (.lst ((List.replicate i true).map V.bl)) ∧ Same H H') ⟨upd_same, same_upd nD⟩ (fun i H' _ h => sq_tup (h.2 _ _ hp)) ?_ ?_
    · rintro i x H2 hx ⟨hD, sm⟩
      obtain ⟨c, hc, rfl⟩ := at_map hx
      have li : i < a.length := (List.getElem?_eq_some_iff.mp hc).1
      refine ⟨rfl, _, rfl, c, rfl, _, hD, (by rw [List.length_map, List.length_replicate]; exact small1000 (by omega)), ?_, same_at sm nD⟩
      rw [upd_same, rep_app]
    · rintro H2 ⟨hD, sm⟩
      refine ⟨D, _, rfl, sq_lst hD, ?_⟩
      rw [reps]
      exact q _ sm
abbrev s_is_lot_of_places : Stmt := topS 15
abbrev n_is_lot_of_places : List Str := ["value", "size", "one", "other"]
theorem sc_is_lot_of_places : FnScope n_is_lot_of_places ["value", "size"] (defScope s_is_lot_of_places) := ⟨rfl, rfl, rfl, by decide +kernel, rfl, by decide +kernel, by decide +kernel⟩
def spLot : Sp := fun vs H Q _ => ∃ (v : V) (n : Nat) (a : List Int), vs = [v, .int n] ∧ LV H v a ∧ Within n a ∧ Inc a ∧ 2 ≤ a.length ∧ a.length ≤ 1000 ∧ ∀ H', Same H H' → Q (.bl true) H'
theorem ok_is_lot_of_places {f : Addr} {fd : FuncData} (F : Fun K "is_lot_of_places" "is_lot_of_places" s_is_lot_of_places f fd) (T : Txt K mg w aW aT es nn) (c_is_places : Cal P w K mg base 2 "is_places" spPlaces []) : FnOk P w K mg base CX0 3 f fd ["value", "size"] spLot := by
  refine F.ok sc_is_lot_of_places (fun vs H Q E h => ?_) (fun cdv A outer s H vs Q E hr h => ?_)
  · obtain ⟨v, n, a, rfl, _⟩ := h
    rfl
  · obtain ⟨v, n, a, rfl, ⟨p, rfl, hp⟩, wi, inc, l2, la, q⟩ := h
    refine ⟨_, (pss_cons (ps_if (pt_not (pt_val (pe_c c_is_places hr (by decide) (by rfl) (pa_cons (pv 0) (pa_cons (pv 1) pa_nil))))) (pss_one (ps_ret pe_bl)) pss_nil)
      (pss_one (ps_ret (pe_callB (cr_all rfl) (by rfl) T.b_all (by decide +kernel) (pa_cons (pe_lc (own := [("one", 2), ("other", 3)]) (g := gTup K 2 (gCons (gName 2) (gCons (gName 3) gNil))) rfl sc_is_lot_of_places.nd (RZ.pi_zipA (by rfl) T.b_zip (pa_cons (pv 0) (pa_cons (pe_slice sl_tupA (pv 0) (po_some pe_int) po_none) pa_nil))) (blkOk_by (N := n_is_lot_of_places) (sc := defScope s_is_lot_of_places) (by decide +kernel)) (fun _ _ _ _ _ => (pg_tup rfl (pgs_cons (pg_name (i := 2) sc_is_lot_of_places.nd rfl (.inl rfl)) (pgs_cons (pg_name (i := 3) sc_is_lot_of_places.nd rfl (.inl rfl)) pgs_nil)))) (fun _ _ _ _ _ => pts_nil) (fun _ _ _ _ _ => (pe_cmpR op_lt (pv 2) (pv 3) (nomark _)))) pa_nil))))), ?_⟩
    refine ⟨_, rfl, _, rfl, .ref p, n, a, rfl, ⟨p, rfl, hp⟩, wi, la, fun H1 s1 => ⟨true, rfl, iteF ?_⟩⟩
    have hp1 := s1 _ _ hp
    have lm : (a.map V.int).length = a.length := List.length_map ..
    refine ⟨_, rfl, _, rfl, _, rfl, p, _, rfl, sq_tup hp1, fun z => ?_, fun _ y ny => ?_⟩
    · exfalso
      have z := z.1
      rw [show (some 1 : Option Int) = some ((1 : Nat) : Int) from rfl, HT.sIx_nat, lm] at z
      omega
    rw [cut_tail (by omega)]
    have k2 := same_upd (o := .tup ((a.map V.int).drop 1)) ny
    have e2 : upd H1 y (.tup ((a.map V.int).drop 1)) y = some (.tup ((a.map V.int).drop 1)) := upd_same
    generalize upd H1 y (.tup ((a.map V.int).drop 1)) = H2 at *
    have hp2 := k2 _ _ hp1
    refine ⟨p, y, _, _, rfl, .inr ⟨sq_tup hp2, sq_tup e2, fun D nD => ?_⟩⟩
    refine lc_zipM (K := K) (a := p) (b := y) (xs := a.map V.int) (ys := (a.map V.int).drop 1) (a.length - 1) (by rw [List.length_drop, lm]; omega)
      (fun i H' => H' D = some (.lst ((List.replicate i true).map V.bl)) ∧ Same H2 H') ⟨upd_same, same_upd nD⟩ (fun i H' h => ⟨sq_tup (h.2 _ _ hp2), sq_tup (h.2 _ _ e2)⟩) ?_ ?_
    · rintro i c d T' H3 hc hd ⟨hD, sm⟩ nT
      obtain ⟨c, hc', rfl⟩ := at_map hc
      rw [List.getElem?_drop, Nat.add_comm] at hd
      obtain ⟨d, hd', rfl⟩ := at_map hd
      have li : i < a.length := (List.getElem?_eq_some_iff.mp hc').1
      have DT : D ≠ T' := ne_of_none hD nT
      have lt := inc i c d hc' hd'
      refine ⟨T', _, rfl, sq_tup upd_same, rfl, _, _, rfl, _, _, rfl, rfl, rfl, ?_⟩
      refine ⟨_, rfl, _, rfl, _, _, rfl, rfl, _, (by rw [upd_ne DT]; exact hD), (by rw [List.length_map, List.length_replicate]; exact small1000 (by omega)), ?_, same_at (same_at sm (sm.free nT)) nD⟩
      rw [upd_same, rep_app, show (fun i j : Int => V.bl (decide (i < j))) c d = V.bl true from congrArg V.bl (decide_eq_true lt)]
    · rintro H3 ⟨hD, sm⟩
      refine ⟨D, _, rfl, sq_lst hD, ?_⟩
      rw [reps]
      exact q _ ((s1.trans k2).trans sm)
end
end M57

namespace M57
open PySem PySem.Spec PyProof.Rows L2 SX Own Gd
open C8 (Cal pe_c pe_gc pe_mk Mak pss_cut)
/-! ### wishes -/
inductive LVs (H : Hp) : List V → List (List Int) → Prop
  | nil : LVs H [] []
  | cons {v : V} {vs : List V} {a : List Int} {as : List (List Int)} : LV H v a → LVs H vs as → LVs H (v :: vs) (a :: as)
theorem LVs.same {H H' : Hp} (s : Same H H') : ∀ {vs : List V} {as : List (List Int)}, LVs H vs as → LVs H' vs as
  | _, _, .nil => .nil
  | _, _, .cons h t => .cons (h.same s) (t.same s)
theorem LVs.len {H : Hp} : ∀ {vs : List V} {as : List (List Int)}, LVs H vs as → vs.length = as.length
  | _, _, .nil => rfl
  | _, _, .cons _ t => congrArg (· + 1) t.len
theorem LVs.at_ {H : Hp} : ∀ {vs : List V} {as : List (List Int)} {i : Nat} {v : V}, LVs H vs as → vs[i]? = some v → ∃ a, as[i]? = some a ∧ LV H v a
  | _, _, 0, _, .cons h t, e => by
    cases e
    exact ⟨_, rfl, h⟩
  | _, _, i + 1, _, .cons h t, e => by
    obtain ⟨r, e1, e2⟩ := t.at_ (i := i) (by simpa using e)
    exact ⟨r, by simpa using e1, e2⟩
/-- jobs of integers -/
def JV (H : Hp) (v : V) (js : List (List Int)) : Prop := ∃ p us, v = .ref p ∧ H p = some (.tup us) ∧ LVs H us js
theorem JV.same {H H' : Hp} {v : V} {js : List (List Int)} (h : JV H v js) (s : Same H H') : JV H' v js := by
  obtain ⟨p, us, e, f, g⟩ := h
  exact ⟨p, us, e, s _ _ f, g.same s⟩
def placeOf (j : List Int) : Int := j.getD 0 0
structure JobsOk (size many : Nat) (js : List (List Int)) : Prop where
  two : 2 ≤ js.length
  few : js.length ≤ 100
  len : ∀ j ∈ js, j.length = many
  one : ∀ j ∈ js, ∀ c ∈ j.drop 1, 1 ≤ c
  inc : Inc (js.map placeOf)
  wi : Within size (js.map placeOf)
/-- a row: coefficients, whether equal, the bound -/
structure Row where
  am : List Int
  eq : Bool
  bd : Int
def RV (H : Hp) (v : V) (r : Row) : Prop := ∃ p q, v = .ref p ∧ H p = some (.tup [.str "sum", .ref q, .bl r.eq, .int r.bd]) ∧ H q = some (tI r.am)
theorem RV.same {H H' : Hp} {v : V} {r : Row} (h : RV H v r) (s : Same H H') : RV H' v r := by
  obtain ⟨p, q, e, f, g⟩ := h
  exact ⟨p, q, e, s _ _ f, s _ _ g⟩
structure RowOk (n : Nat) (r : Row) : Prop where
  len : r.am.length = n
  nz : ∃ c ∈ r.am, c ≠ 0
  bd : ∀ c ∈ r.am, -1000 ≤ c ∧ c ≤ 1000
inductive Wish
  | sum (r : Row)
  | unlike (a : List Int)
  | bench (js : List (List Int))
  | table (a : List Int) (ls : List (List Int))
def WV (H : Hp) (v : V) : Wish → Prop
  | .sum r => RV H v r
  | .unlike a => ∃ p u, v = .ref p ∧ H p = some (.tup [.str "unlike", u]) ∧ LV H u a
  | .bench js => ∃ p u, v = .ref p ∧ H p = some (.tup [.str "bench", u]) ∧ JV H u js
  | .table a ls => ∃ p u t, v = .ref p ∧ H p = some (.tup [.str "table", u, t]) ∧ LV H u a ∧ JV H t ls
theorem WV.same {H H' : Hp} {v : V} {x : Wish} (h : WV H v x) (s : Same H H') : WV H' v x := by
  cases x with
  | sum r => exact RV.same h s
  | unlike a =>
    obtain ⟨p, u, e, f, g⟩ := h
    exact ⟨p, u, e, s _ _ f, g.same s⟩
  | bench js =>
    obtain ⟨p, u, e, f, g⟩ := h
    exact ⟨p, u, e, s _ _ f, g.same s⟩
  | table a ls =>
    obtain ⟨p, u, t, e, f, g, k⟩ := h
    exact ⟨p, u, t, e, s _ _ f, g.same s, k.same s⟩
/-- each lot below the next one -/
def IncL (ls : List (List Int)) : Prop := ∀ i x y, ls[i]? = some x → ls[i + 1]? = some y → HT.lexLt x y = true
structure TabOk (n : Nat) (a : List Int) (ls : List (List Int)) : Prop where
  wi : Within n a
  nd : a.Nodup
  l1 : 1 ≤ a.length
  few : a.length ≤ 100
  t1 : 1 ≤ ls.length
  tf : ls.length ≤ 100
  len : ∀ l ∈ ls, l.length = a.length
  inc : IncL ls
def WishOk (size : Nat) : Wish → Prop
  | .sum r => RowOk size r ∧ size ≤ 100
  | .unlike a => Within size a ∧ Inc a ∧ 2 ≤ a.length ∧ a.length ≤ 1000
  | .bench js => JobsOk size 2 js
  | .table a ls => TabOk size a ls
section
variable {P : Program} {w : World} {K : PySem.W.Frag} {mg : Str → Option Value} {base : Heap} {aW aT : Addr} {es : Array DictEntry} {nn : Nat}
abbrev s_is_unlike : Stmt := topS 19
abbrev n_is_unlike : List Str := ["value", "size"]
theorem sc_is_unlike : FnScope n_is_unlike ["value", "size"] (defScope s_is_unlike) := ⟨rfl, rfl, rfl, by decide +kernel, rfl, by decide +kernel, by decide +kernel⟩
def spUnlike : Sp := fun vs H Q _ => ∃ (p : Addr) (k : V) (v : V) (n : Nat) (a : List Int), vs = [.ref p, .int n] ∧ H p = some (.tup [k, v]) ∧ LV H v a ∧ Within n a ∧ Inc a ∧ 2 ≤ a.length ∧ a.length ≤ 1000 ∧ ∀ H', Same H H' → Q (.bl true) H'
theorem ok_is_unlike {f : Addr} {fd : FuncData} (F : Fun K "_is_unlike" "_is_unlike" s_is_unlike f fd) (T : Txt K mg w aW aT es nn) (c_is_lot_of_places : Cal P w K mg base 3 "is_lot_of_places" spLot []) : FnOk P w K mg base CX0 4 f fd ["value", "size"] spUnlike := by
  refine F.ok sc_is_unlike (fun vs H Q E h => ?_) (fun cdv A outer s H vs Q E hr h => ?_)
  · obtain ⟨p, k, v, n, a, rfl, _⟩ := h
    rfl
  · obtain ⟨p, k, v, n, a, rfl, hp, ⟨qa, rfl, hq⟩, wi, inc, l2, la, q⟩ := h
    refine ⟨_, (pss_one (ps_ret (pe_and (pe_cmpR op_eq (pe_callB call_len_seq (by rfl) T.b_len (by decide +kernel) (pa_cons (pv 0) pa_nil)) pe_int (nomark _)) (pe_and (pe_c c_is_lot_of_places hr (by decide) (by rfl) (pa_cons (pe_ix ix_tup (pv 0) pe_int (fun _ _ => rfl)) (pa_cons (pv 1) pa_nil))) (pe_one (pe_cmpR op_ge (pe_callB call_len_seq (by rfl) T.b_len (by decide +kernel) (pa_cons (pe_ix ix_tup (pv 0) pe_int (fun _ _ => rfl)) pa_nil)) pe_int (nomark _))))))), ?_⟩
    refine ⟨_, rfl, p, _, rfl, .inr (sq_tup hp), rfl, true, rfl, iteT ?_⟩
    refine ⟨_, rfl, p, _, 1, _, rfl, rfl, sq_tup hp, rfl, _, rfl, .ref qa, n, a, rfl, ⟨qa, rfl, hq⟩, wi, inc, l2, la, fun H1 s1 => ⟨true, rfl, iteT ?_⟩⟩
    refine ⟨_, rfl, p, _, 1, _, rfl, rfl, sq_tup (s1 _ _ hp), rfl, qa, _, rfl, .inr (sq_tup (s1 _ _ hq)), _, _, rfl, rfl, ?_⟩
    rw [show (fun i j : Int => V.bl (decide (j ≤ i))) ((a.map V.int).length : Nat) 2 = V.bl true from congrArg V.bl (decide_eq_true (by rw [List.length_map]; omega))]
    exact q _ s1
abbrev s_is_jobs : Stmt := topS 24
abbrev n_is_jobs : List Str := ["value", "size", "many", "job", "item"]
theorem sc_is_jobs : FnScope n_is_jobs ["value", "size", "many"] (defScope s_is_jobs) := ⟨rfl, rfl, rfl, by decide +kernel, rfl, by decide +kernel, by decide +kernel⟩
def spJobs : Sp := fun vs H Q _ => ∃ (v : V) (n many : Nat) (js : List (List Int)), vs = [v, .int n, .int many] ∧ JV H v js ∧ JobsOk n many js ∧ 1 ≤ many ∧ many ≤ 5 ∧ ∀ H', Same H H' → Q (.bl true) H'
theorem ok_is_jobs {f : Addr} {fd : FuncData} (F : Fun K "_is_jobs" "_is_jobs" s_is_jobs f fd) (T : Txt K mg w aW aT es nn) (c_is_integers : Cal P w K mg base 2 "is_integers" spInts []) (c_is_lot_of_places : Cal P w K mg base 3 "is_lot_of_places" spLot []) : FnOk P w K mg base CX0 4 f fd ["value", "size", "many"] spJobs := by
  refine F.ok sc_is_jobs (fun vs H Q E h => ?_) (fun cdv A outer s H vs Q E hr h => ?_)
  · obtain ⟨v, n, many, js, rfl, _⟩ := h
    rfl
  · obtain ⟨v, n, many, js, rfl, ⟨p, us, rfl, hp, lv⟩, ok, m1, m5, q⟩ := h
    have ul := lv.len
    have two := ok.two
    have few := ok.few
    refine ⟨_, (pss_cons (ps_if (PW.pt (pw_or (pt_not (pt_val (pe_callB call_isE (by rfl) T.b_isinstance (by decide +kernel) (pa_cons (pv 0) (pa_cons (pe_bltn (v := .ty "tuple") (by rfl) T.b_tuple boot_tuple rfl) pa_nil))))) (pw_or1 (pt_cmpR op_lt (pe_callB call_len_seq (by rfl) T.b_len (by decide +kernel) (pa_cons (pv 0) pa_nil)) pe_int (nomark _))))) (pss_one (ps_ret pe_bl)) pss_nil)
      (pss_cons (ps_if (pt_not (pt_val (pe_callB (cr_all rfl) (by rfl) T.b_all (by decide +kernel) (pa_cons (pe_lc (own := [("job", 3)]) rfl sc_is_jobs.nd (pi_tup (pv 0)) (blkOk_by (N := n_is_jobs) (sc := defScope s_is_jobs) (by decide +kernel)) (fun _ _ _ _ _ => (pg_name (i := 3) sc_is_jobs.nd rfl (.inl rfl))) (fun _ _ _ _ _ => pts_nil) (fun _ _ _ _ _ => (pe_c c_is_integers hr (by decide) (by rfl) (pa_cons (pv 3) (pa_cons (pv 2) pa_nil))))) pa_nil)))) (pss_one (ps_ret pe_bl)) pss_nil)
      (pss_cons (ps_if (pt_not (pt_val (pe_c c_is_lot_of_places hr (by decide) (by rfl) (pa_cons (pe_callTy call_tuple_of (by rfl) T.b_tuple (by decide +kernel) (pa_cons (pe_lc (own := [("job", 3)]) rfl sc_is_jobs.nd (pi_tup (pv 0)) (blkOk_by (N := n_is_jobs) (sc := defScope s_is_jobs) (by decide +kernel)) (fun _ _ _ _ _ => (pg_name (i := 3) sc_is_jobs.nd rfl (.inl rfl))) (fun _ _ _ _ _ => pts_nil) (fun _ _ _ _ _ => (pe_ix (r := rIxT K) ix_tup (pv 3) pe_int (fun _ _ => rfl)))) pa_nil)) (pa_cons (pv 1) pa_nil))))) (pss_one (ps_ret pe_bl)) pss_nil)
      (pss_one (ps_ret (pe_callB (cr_all rfl) (by rfl) T.b_all (by decide +kernel) (pa_cons (pe_lc2 (wi1 := iTup K (tSl (rSlA K) (tVar 3) (tPart (tC (V.int 1))) tNoPart)) (own := [("job", 3), ("item", 4)]) (vs1 := [4]) rfl sc_is_jobs.nd (pi_tup (pv 0)) (blkOk_by (N := n_is_jobs) (sc := defScope s_is_jobs) (by decide +kernel)) (by decide) (fun _ _ _ _ _ => (pg_name (i := 3) sc_is_jobs.nd rfl (.inl rfl))) (fun _ _ _ _ _ => pts_nil) (fun _ _ _ _ _ => (pi_tup (pe_slice (r := rSlA K) sl_tupA (pv 3) (po_some pe_int) po_none))) (fun _ _ _ _ _ => (pg_name (i := 4) sc_is_jobs.nd rfl (.inl rfl))) (fun _ _ _ _ _ => pts_nil) (fun _ _ _ _ _ => (pe_cmpR op_ge (pv 4) pe_int (nomark _)))) pa_nil))))))), ?_⟩
    refine ⟨_, rfl, .ref p, .type "tuple", "tuple", true, rfl, .base (.base (.tup hp)), by rfl, true, rfl, iteF ?_⟩
    refine ⟨_, rfl, p, _, rfl, .inr (sq_tup hp), _, _, rfl, rfl, _, rfl, ite2 (fun h => ?_) (fun _ => ?_)⟩
    · exfalso
      have h := of_decide_eq_true h
      omega
    refine ⟨_, rfl, p, rfl, ⟨_, sq_tup hp⟩, fun D nD => ?_⟩
    refine lc_tup (K := K) (a := p) (xs := us) (fun i H' => H' D = some (.lst ((List.replicate i true).map V.bl)) ∧ Same H H') ⟨upd_same, same_upd nD⟩ (fun i H' _ h => sq_tup (h.2 _ _ hp)) ?_ ?_
    · rintro i x H2 hx ⟨hD, sm⟩
      obtain ⟨j, hj, jv⟩ := lv.at_ hx
      have li : i < js.length := (List.getElem?_eq_some_iff.mp hj).1
      have lj := ok.len j (List.mem_of_getElem? hj)
      refine ⟨rfl, _, rfl, _, rfl, x, j, by rw [lj]; rfl, jv.same sm, by omega, fun H3 s3 => ⟨_, s3 _ _ hD, (by rw [List.length_map, List.length_replicate]; exact small1000 (by omega)), ?_, same_at (sm.trans s3) nD⟩⟩
      rw [upd_same, rep_app]
    rintro H2 ⟨hD, sm⟩
    refine ⟨D, _, rfl, sq_lst hD, ?_⟩
    rw [reps]
    refine ⟨true, rfl, iteF ?_⟩
    have hp2 := sm _ _ hp
    refine ⟨_, rfl, p, rfl, ⟨_, sq_tup hp2⟩, fun D2 nD2 => ?_⟩
    refine lc_tup (K := K) (a := p) (xs := us) (fun i H' => H' D2 = some (.lst (((js.take i).map placeOf).map V.int)) ∧ Same H2 H') ⟨upd_same, same_upd nD2⟩ (fun i H' _ h => sq_tup (h.2 _ _ hp2)) ?_ ?_
    · rintro i x H3 hx ⟨hD, s3⟩
      obtain ⟨j, hj, pj, rfl, hpj⟩ := lv.at_ hx
      have li : i < js.length := (List.getElem?_eq_some_iff.mp hj).1
      have lj := ok.len j (List.mem_of_getElem? hj)
      have hpj3 := s3 _ _ (sm _ _ hpj)
      obtain ⟨c, j', rfl⟩ : ∃ c j', j = c :: j' := by
        cases j with
        | nil => simp at lj; omega
        | cons c j' => exact ⟨c, j', rfl⟩
      refine ⟨rfl, _, rfl, pj, _, 0, .int c, rfl, rfl, sq_tup hpj3, atI_nat (j := 0) rfl, _, hD, (by rw [List.length_map, List.length_map, List.length_take]; exact small1000 (by omega)), ?_, same_at s3 nD2⟩
      rw [upd_same, take_one hj, List.map_append, List.map_append]; rfl
    rintro H3 ⟨hD3, s3⟩
    rw [ul, List.take_length] at hD3
    refine ⟨D2, _, rfl, .inl ⟨sq_lst hD3, fun t nt => ?_⟩⟩
    have k4 := same_upd (o := tI (js.map placeOf)) nt
    refine ⟨_, rfl, .ref t, n, js.map placeOf, rfl, ⟨t, rfl, upd_same⟩, ok.wi, ok.inc, by rw [List.length_map]; omega, by rw [List.length_map]; omega, fun H5 s5 => ⟨true, rfl, iteF ?_⟩⟩
    have s05 := ((sm.trans s3).trans k4).trans s5
    have hp5 := s05 _ _ hp
    refine ⟨_, rfl, p, rfl, ⟨_, sq_tup hp5⟩, fun D6 nD6 => ?_⟩
    refine walk_tup (K := K) (a := p) (xs := us) (fun i H' => ∃ m, H' D6 = some (.lst ((List.replicate m true).map V.bl)) ∧ m ≤ i * 5 ∧ Same H5 H') ⟨0, upd_same, Nat.zero_le _, same_upd nD6⟩ (fun i H' _ h => by obtain ⟨m, _, _, sm⟩ := h; exact sq_tup (sm _ _ hp5)) ?_ ?_
    · rintro i x H6 hx ⟨m, hD6, mi, s6⟩
      obtain ⟨j, hj, pj, rfl, hpj⟩ := lv.at_ hx
      have li : i < js.length := (List.getElem?_eq_some_iff.mp hj).1
      have lj := ok.len j (List.mem_of_getElem? hj)
      have hpj6 := s6 _ _ (s05 _ _ hpj)
      have lm : (j.map V.int).length = many := by rw [List.length_map, lj]
      refine ⟨rfl, _, rfl, _, rfl, pj, _, rfl, sq_tup hpj6, fun z => ?_, fun _ y ny => ?_⟩
      · exfalso
        have z := z.1
        rw [show (some 1 : Option Int) = some ((1 : Nat) : Int) from rfl, HT.sIx_nat, lm] at z
        omega
      rw [cut_tail (by omega)]
      have Dy : D6 ≠ y := ne_of_none hD6 ny
      have k7 := same_upd (o := .tup ((j.map V.int).drop 1)) ny
      have ey : upd H6 y (.tup ((j.map V.int).drop 1)) y = some (.tup ((j.map V.int).drop 1)) := upd_same
      have hD7 := k7 _ _ hD6
      have s7 := s6.trans k7
      generalize upd H6 y (.tup ((j.map V.int).drop 1)) = H7 at *
      refine ⟨y, rfl, ⟨_, sq_tup ey⟩, ?_⟩
      refine walk_tup (K := K) (a := y) (xs := (j.map V.int).drop 1) (fun k H' => ∃ m', H' D6 = some (.lst ((List.replicate m' true).map V.bl)) ∧ m' ≤ i * 5 + k ∧ Same H5 H' ∧ H' y = some (.tup ((j.map V.int).drop 1))) ⟨m, hD7, by omega, s7, ey⟩ (fun k H' _ h => by obtain ⟨_, _, _, _, e⟩ := h; exact sq_tup e) ?_ ?_
      · rintro k x H8 hx8 ⟨m', hD8, mk, s8, ey8⟩
        rw [← List.map_drop] at hx8
        obtain ⟨c, hc, rfl⟩ := at_map hx8
        have c1 := ok.one j (List.mem_of_getElem? hj) c (List.mem_of_getElem? hc)
        have lk : k < (j.drop 1).length := (List.getElem?_eq_some_iff.mp hc).1
        rw [List.length_drop] at lk
        refine ⟨rfl, _, rfl, _, _, rfl, rfl, _, hD8, (by rw [List.length_map, List.length_replicate]; exact small1000 (by omega)), m' + 1, ?_, by omega, same_at s8 nD6, by rw [upd_ne Dy.symm]; exact ey8⟩
        rw [upd_same, rep_app, show (fun i j : Int => V.bl (decide (j ≤ i))) c 1 = V.bl true from congrArg V.bl (decide_eq_true c1)]
      · rintro H8 ⟨m', hD8, mk, s8, _⟩
        rw [List.length_drop, lm] at mk
        exact ⟨m', hD8, by omega, s8⟩
    · rintro H6 ⟨m, hD6, _, s6⟩
      refine ⟨D6, _, rfl, sq_lst hD6, ?_⟩
      rw [reps]
      exact q _ (s05.trans s6)
abbrev s_is_bench : Stmt := topS 22
abbrev n_is_bench : List Str := ["value", "size"]
theorem sc_is_bench : FnScope n_is_bench ["value", "size"] (defScope s_is_bench) := ⟨rfl, rfl, rfl, by decide +kernel, rfl, by decide +kernel, by decide +kernel⟩
def spBench : Sp := fun vs H Q _ => ∃ (p : Addr) (k v : V) (n : Nat) (js : List (List Int)), vs = [.ref p, .int n] ∧ H p = some (.tup [k, v]) ∧ JV H v js ∧ JobsOk n 2 js ∧ ∀ H', Same H H' → Q (.bl true) H'
theorem ok_is_bench {f : Addr} {fd : FuncData} (F : Fun K "_is_bench" "_is_bench" s_is_bench f fd) (T : Txt K mg w aW aT es nn) (c_is_jobs : Cal P w K mg base 4 "_is_jobs" spJobs []) : FnOk P w K mg base CX0 5 f fd ["value", "size"] spBench := by
  refine F.ok sc_is_bench (fun vs H Q E h => ?_) (fun cdv A outer s H vs Q E hr h => ?_)
  · obtain ⟨p, k, v, n, js, rfl, _⟩ := h
    rfl
  · obtain ⟨p, k, v, n, js, rfl, hp, jv, ok, q⟩ := h
    refine ⟨_, (pss_one (ps_ret (pe_and (pe_cmpR op_eq (pe_callB call_len_seq (by rfl) T.b_len (by decide +kernel) (pa_cons (pv 0) pa_nil)) pe_int (nomark _)) (pe_one (pe_c c_is_jobs hr (by decide) (by rfl) (pa_cons (pe_ix ix_tup (pv 0) pe_int (fun _ _ => rfl)) (pa_cons (pv 1) (pa_cons pe_int pa_nil)))))))), ?_⟩
    refine ⟨_, rfl, p, _, rfl, .inr (sq_tup hp), rfl, true, rfl, iteT ?_⟩
    exact ⟨_, rfl, p, _, 1, _, rfl, rfl, sq_tup hp, rfl, _, rfl, v, n, 2, js, rfl, jv, ok, by decide, by decide, fun H' s' => q _ s'⟩
abbrev s_is_sum : Stmt := topS 18
abbrev n_is_sum : List Str := ["value", "size", "_", "coefficients", "equal", "bound", "item"]
theorem sc_is_sum : FnScope n_is_sum ["value", "size"] (defScope s_is_sum) := ⟨rfl, rfl, rfl, by decide +kernel, rfl, by decide +kernel, by decide +kernel⟩
def spSum : Sp := fun vs H Q _ => ∃ (v : V) (n : Nat) (r : Row), vs = [v, .int n] ∧ RV H v r ∧ RowOk n r ∧ n ≤ 100 ∧ ∀ H', Same H H' → Q (.bl true) H'
theorem ok_is_sum {f : Addr} {fd : FuncData} (F : Fun K "_is_sum" "_is_sum" s_is_sum f fd) (T : Txt K mg w aW aT es nn) (c_is_whole : Cal P w K mg base 1 "is_whole" spWhole []) (c_is_integers : Cal P w K mg base 2 "is_integers" spInts []) : FnOk P w K mg base CX0 4 f fd ["value", "size"] spSum := by
  refine F.ok sc_is_sum (fun vs H Q E h => ?_) (fun cdv A outer s H vs Q E hr h => ?_)
  · obtain ⟨v, n, r, rfl, _⟩ := h
    rfl
  · obtain ⟨v, n, r, rfl, ⟨p, qa, rfl, hp, hq⟩, ok, n100, q⟩ := h
    have len := ok.len
    refine ⟨_, (pss_cons (ps_if (PW.pt (pw_or (pt_cmpR op_ne (pe_callB call_len_seq (by rfl) T.b_len (by decide +kernel) (pa_cons (pv 0) pa_nil)) pe_int (nomark _)) (pw_or1 (pt_cmpR op_ne (pe_ix ix_tup (pv 0) pe_int (fun _ _ => rfl)) pe_str (nomark _))))) (pss_one (ps_ret pe_bl)) pss_nil)
      (pss_cons (ps_asg (pv 0) (pg_tup rfl (pgs_cons (pg_name (i := 2) sc_is_sum.nd rfl (.inl rfl)) (pgs_cons (pg_name (i := 3) sc_is_sum.nd rfl (.inl rfl)) (pgs_cons (pg_name (i := 4) sc_is_sum.nd rfl (.inl rfl)) (pgs_cons (pg_name (i := 5) sc_is_sum.nd rfl (.inl rfl)) pgs_nil))))))
      (pss_cons (ps_if (PW.pt (pw_or (pt_not (pt_val (pe_c c_is_integers hr (by decide) (by rfl) (pa_cons (pv 3) (pa_cons (pv 1) pa_nil))))) (pw_or1 (pt_not (pt_val (pe_callB (cr_any rfl) (by rfl) T.b_any (by decide +kernel) (pa_cons (pe_lc (own := [("item", 6)]) rfl sc_is_sum.nd (pi_tup (pv 3)) (blkOk_by (N := n_is_sum) (sc := defScope s_is_sum) (by decide +kernel)) (fun _ _ _ _ _ => (pg_name (i := 6) sc_is_sum.nd rfl (.inl rfl))) (fun _ _ _ _ _ => pts_nil) (fun _ _ _ _ _ => (pe_cmpR op_ne (pv 6) pe_int (nomark _)))) pa_nil))))))) (pss_one (ps_ret pe_bl)) pss_nil)
      (pss_one (ps_ret (pe_and (pe_callB call_isE (by rfl) T.b_isinstance (by decide +kernel) (pa_cons (pv 4) (pa_cons (pe_bltn (v := .ty "bool") (by rfl) T.b_bool boot_bool rfl) pa_nil))) (pe_one (pe_c c_is_whole hr (by decide) (by rfl) (pa_cons (pv 5) pa_nil))))))))), ?_⟩
    refine ⟨_, rfl, p, _, rfl, .inr (sq_tup hp), rfl, _, rfl, iteF ⟨_, rfl, p, _, 0, _, rfl, rfl, sq_tup hp, rfl, rfl, _, rfl, iteF ?_⟩⟩
    refine ⟨_, rfl, p, _, rfl, sq_tup hp, rfl, _, _, rfl, _, _, rfl, _, _, rfl, _, _, rfl, rfl, ?_⟩
    refine ⟨_, rfl, _, rfl, .ref qa, r.am, by rw [len]; rfl, ⟨qa, rfl, hq⟩, by omega, fun H1 s1 => ⟨true, rfl, iteF ?_⟩⟩
    have hq1 := s1 _ _ hq
    refine ⟨_, rfl, qa, rfl, ⟨_, sq_tup hq1⟩, fun D nD => ?_⟩
    refine lc_tup (K := K) (a := qa) (xs := r.am.map V.int) (fun i H' => H' D = some (.lst (((r.am.take i).map (fun c : Int => decide (c ≠ 0))).map V.bl)) ∧ Same H1 H') ⟨upd_same, same_upd nD⟩ (fun i H' _ h => sq_tup (h.2 _ _ hq1)) ?_ ?_
    · rintro i x H2 hx ⟨hD, sm⟩
      obtain ⟨c, hc, rfl⟩ := at_map hx
      have li : i < r.am.length := (List.getElem?_eq_some_iff.mp hc).1
      refine ⟨rfl, _, rfl, rfl, _, hD, (by rw [List.length_map, List.length_map, List.length_take]; exact small1000 (by omega)), ?_, same_at sm nD⟩
      rw [upd_same, take_one hc, List.map_append, List.map_append]
      have e : (!decide (V.int c = V.int 0)) = decide (c ≠ 0) := by
        by_cases h : c = 0
        · simp [h]
        · simp [h]
      rw [e]; rfl
    rintro H2 ⟨hD, sm⟩
    rw [List.length_map, List.take_length] at hD
    refine ⟨D, _, rfl, sq_lst hD, true, ?_, iteF ?_⟩
    · obtain ⟨c, hc, h0⟩ := ok.nz
      have : ((r.am.map (fun c : Int => decide (c ≠ 0))).any id) = true := by
        rw [List.any_eq_true]
        exact ⟨_, List.mem_map_of_mem hc, decide_eq_true h0⟩
      rw [this]
    refine ⟨_, rfl, .bl r.eq, .type "bool", "bool", true, rfl, .base (.base (.bl _)), by rfl, true, rfl, iteT ?_⟩
    exact ⟨_, rfl, r.bd, rfl, q _ (s1.trans sm)⟩
abbrev s_is_table : Stmt := topS 20
abbrev n_is_table : List Str := ["value", "size", "_", "places", "lots", "one", "other", "lot"]
theorem sc_is_table : FnScope n_is_table ["value", "size"] (defScope s_is_table) := ⟨rfl, rfl, rfl, by decide +kernel, rfl, by decide +kernel, by decide +kernel⟩
def spTable : Sp := fun vs H Q _ => ∃ (p : Addr) (k u t : V) (n : Nat) (a : List Int) (ls : List (List Int)), vs = [.ref p, .int n] ∧ H p = some (.tup [k, u, t]) ∧ LV H u a ∧ JV H t ls ∧ TabOk n a ls ∧ ∀ H', Same H H' → Q (.bl true) H'
theorem ok_is_table {f : Addr} {fd : FuncData} (F : Fun K "_is_table" "_is_table" s_is_table f fd) (T : Txt K mg w aW aT es nn) (c_is_places : Cal P w K mg base 2 "is_places" spPlaces []) (c_is_integers : Cal P w K mg base 2 "is_integers" spInts []) : FnOk P w K mg base CX0 4 f fd ["value", "size"] spTable := by
  refine F.ok sc_is_table (fun vs H Q E h => ?_) (fun cdv A outer s H vs Q E hr h => ?_)
  · obtain ⟨p, k, u, t, n, a, ls, rfl, _⟩ := h
    rfl
  · obtain ⟨p, k, u, t, n, a, ls, rfl, hp, ⟨qa, rfl, hq⟩, ⟨ql, us, rfl, hql, lv⟩, ok, q⟩ := h
    have ul := lv.len
    have l1 := ok.l1
    have few := ok.few
    have t1 := ok.t1
    have tf := ok.tf
    refine ⟨_, (pss_cons (ps_if (pt_cmpR op_ne (pe_callB call_len_seq (by rfl) T.b_len (by decide +kernel) (pa_cons (pv 0) pa_nil)) pe_int (nomark _)) (pss_one (ps_ret pe_bl)) pss_nil)
      (pss_cons (ps_asg (pv 0) (pg_tup rfl (pgs_cons (pg_name (i := 2) sc_is_table.nd rfl (.inl rfl)) (pgs_cons (pg_name (i := 3) sc_is_table.nd rfl (.inr rfl)) (pgs_cons (pg_name (i := 4) sc_is_table.nd rfl (.inl rfl)) pgs_nil)))))
      (pss_cons (ps_if (PW.pt (pw_or (pt_not (pt_val (pe_c c_is_places hr (by decide) (by rfl) (pa_cons (pv 3) (pa_cons (pv 1) pa_nil))))) (pw_or (pt_not (pt_truth (pv 3) (by intro _; rfl))) (pw_or1 (pt_cmpR op_lt (Z3.pe_lenSetT (by rfl) T.b_len (by rfl) T.b_set (pv 3)) (pe_callB call_len_seq (by rfl) T.b_len (by decide +kernel) (pa_cons (pv 3) pa_nil)) (nomark _)))))) (pss_one (ps_ret pe_bl)) pss_nil)
      (pss_cons (ps_if (PW.pt (pw_or (pt_not (pt_val (pe_callB call_isE (by rfl) T.b_isinstance (by decide +kernel) (pa_cons (pv 4) (pa_cons (pe_bltn (v := .ty "tuple") (by rfl) T.b_tuple boot_tuple rfl) pa_nil))))) (pw_or1 (pt_not (pt_truth (pv 4) (by intro _; rfl)))))) (pss_one (ps_ret pe_bl)) pss_nil)
      (pss_cons (ps_if (pt_not (pt_val (pe_callB (cr_all rfl) (by rfl) T.b_all (by decide +kernel) (pa_cons (pe_lc (own := [("lot", 7)]) rfl sc_is_table.nd (pi_tup (pv 4)) (blkOk_by (N := n_is_table) (sc := defScope s_is_table) (by decide +kernel)) (fun _ _ _ _ _ => (pg_name (i := 7) sc_is_table.nd rfl (.inl rfl))) (fun _ _ _ _ _ => pts_nil) (fun _ _ _ _ _ => (pe_c c_is_integers hr (by decide) (by rfl) (pa_cons (pv 7) (pa_cons (pe_callB (id := "len") (r := fun xs H Q => ∃ a ys, xs = [V.ref a] ∧ (SqL K H a ys ∨ SqT K H a ys) ∧ Q (.int (ys.length : Nat)) H) call_len_seq (by rfl) T.b_len (by decide +kernel) (pa_cons (pv 3) pa_nil)) pa_nil))))) pa_nil)))) (pss_one (ps_ret pe_bl)) pss_nil)
      (pss_one (ps_ret (pe_callB (cr_all rfl) (by rfl) T.b_all (by decide +kernel) (pa_cons (pe_lc (own := [("one", 5), ("other", 6)]) (g := gTup K 2 (gCons (gName 5) (gCons (gName 6) gNil))) rfl sc_is_table.nd (RZ.pi_zipA (by rfl) T.b_zip (pa_cons (pv 4) (pa_cons (pe_slice sl_tupA (pv 4) (po_some pe_int) po_none) pa_nil))) (blkOk_by (N := n_is_table) (sc := defScope s_is_table) (by decide +kernel)) (fun _ _ _ _ _ => (pg_tup rfl (pgs_cons (pg_name (i := 5) sc_is_table.nd rfl (.inl rfl)) (pgs_cons (pg_name (i := 6) sc_is_table.nd rfl (.inl rfl)) pgs_nil)))) (fun _ _ _ _ _ => pts_nil) (fun _ _ _ _ _ => (pe_cmpR (r := rLtT K) (op_ltT (Nat.lt_of_le_of_lt (Nat.le_add_right _ 64) hr.units)) (pv 5) (pv 6) (nomark _)))) pa_nil))))))))), ?_⟩
    refine ⟨_, rfl, p, _, rfl, .inr (sq_tup hp), rfl, _, rfl, iteF ?_⟩
    refine ⟨_, rfl, p, _, rfl, sq_tup hp, rfl, _, _, rfl, _, _, rfl, _, _, rfl, rfl, ?_⟩
    refine ⟨_, rfl, _, rfl, .ref qa, n, a, rfl, ⟨qa, rfl, hq⟩, ok.wi, by omega, fun H1 s1 => ⟨true, rfl, iteF ?_⟩⟩
    have hq1 := s1 _ _ hq
    have la : (a.map V.int).length = a.length := List.length_map ..
    refine ⟨_, rfl, true, .inr (.inl ⟨_, sq_tup hq1, by cases a with | nil => simp at l1 | cons c d => rfl⟩), iteF ?_⟩
    refine ⟨_, rfl, qa, a, rfl, sq_tup hq1, ok.nd, by omega, _, rfl, qa, _, rfl, .inr (sq_tup hq1), _, _, rfl, rfl, _, rfl, ite2 (fun h => ?_) (fun _ => ?_)⟩
    · exfalso
      have h := of_decide_eq_true h
      omega
    have hql1 := s1 _ _ hql
    refine ⟨_, rfl, .ref ql, .type "tuple", "tuple", true, rfl, .base (.base (.tup hql1)), by rfl, true, rfl, iteF ?_⟩
    refine ⟨_, rfl, true, .inr (.inl ⟨_, sq_tup hql1, by cases us with | nil => simp at ul; omega | cons c d => rfl⟩), iteF ?_⟩
    refine ⟨_, rfl, ql, rfl, ⟨_, sq_tup hql1⟩, fun D nD => ?_⟩
    refine lc_tup (K := K) (a := ql) (xs := us) (fun i H' => H' D = some (.lst ((List.replicate i true).map V.bl)) ∧ Same H1 H') ⟨upd_same, same_upd nD⟩ (fun i H' _ h => sq_tup (h.2 _ _ hql1)) ?_ ?_
    · rintro i x H2 hx ⟨hD, sm⟩
      obtain ⟨l, hl, lvx⟩ := lv.at_ hx
      have li : i < ls.length := (List.getElem?_eq_some_iff.mp hl).1
      have ll := ok.len l (List.mem_of_getElem? hl)
      refine ⟨rfl, _, rfl, _, rfl, qa, _, rfl, .inr (sq_tup (sm _ _ hq1)), x, l, by rw [la, ll]; rfl, lvx.same (s1.trans sm), by omega, fun H3 s3 => ⟨_, s3 _ _ hD, (by rw [List.length_map, List.length_replicate]; exact small1000 (by omega)), ?_, same_at (sm.trans s3) nD⟩⟩
      rw [upd_same, rep_app]
    rintro H2 ⟨hD, sm⟩
    refine ⟨D, _, rfl, sq_lst hD, ?_⟩
    rw [reps]
    refine ⟨true, rfl, iteF ?_⟩
    have s12 := s1.trans sm
    have hql2 := sm _ _ hql1
    refine ⟨_, rfl, _, rfl, _, rfl, ql, _, rfl, sq_tup hql2, fun z => ?_, fun _ y ny => ?_⟩
    · exfalso
      have z := z.1
      rw [show (some 1 : Option Int) = some ((1 : Nat) : Int) from rfl, HT.sIx_nat] at z
      omega
    rw [cut_tail (by omega)]
    have k2 := same_upd (o := .tup (us.drop 1)) ny
    have e2 : upd H2 y (.tup (us.drop 1)) y = some (.tup (us.drop 1)) := upd_same
    generalize upd H2 y (.tup (us.drop 1)) = H3 at *
    have hql3 := k2 _ _ hql2
    refine ⟨ql, y, _, _, rfl, .inr ⟨sq_tup hql3, sq_tup e2, fun D2 nD2 => ?_⟩⟩
    refine lc_zipM (K := K) (a := ql) (b := y) (xs := us) (ys := us.drop 1) (us.length - 1) (by rw [List.length_drop]; omega)
      (fun i H' => H' D2 = some (.lst ((List.replicate i true).map V.bl)) ∧ Same H3 H') ⟨upd_same, same_upd nD2⟩ (fun i H' h => ⟨sq_tup (h.2 _ _ hql3), sq_tup (h.2 _ _ e2)⟩) ?_ ?_
    · rintro i c d T' H4 hc hd ⟨hD2, sm2⟩ nT
      rw [List.getElem?_drop, Nat.add_comm] at hd
      obtain ⟨l, hl, pc, rfl, hpc⟩ := lv.at_ hc
      obtain ⟨l', hl', pd, rfl, hpd⟩ := lv.at_ hd
      have li : i < us.length := (List.getElem?_eq_some_iff.mp hc).1
      have DT : D2 ≠ T' := ne_of_none hD2 nT
      have lt := ok.inc i l l' hl hl'
      have sT := same_at (o := .tup [.ref pc, .ref pd]) sm2 (sm2.free nT)
      have s1T := (s12.trans k2).trans sT
      refine ⟨T', _, rfl, sq_tup upd_same, rfl, _, _, rfl, _, _, rfl, rfl, rfl, ?_⟩
      refine ⟨_, rfl, _, rfl, pc, pd, l, l', rfl, rfl, sq_tup (s1T _ _ hpc), sq_tup (s1T _ _ hpd), _, (by rw [upd_ne DT]; exact hD2), (by rw [List.length_map, List.length_replicate]; exact small1000 (by omega)), ?_, same_at sT nD2⟩
      rw [upd_same, rep_app, lt]
    · rintro H4 ⟨hD2, sm2⟩
      refine ⟨D2, _, rfl, sq_lst hD2, ?_⟩
      rw [reps]
      exact q _ ((s12.trans k2).trans sm2)
/-- a test of the dict by its word -/
structure Tst (P : Program) (w : World) (K : PySem.W.Frag) (mg : Str → Option Value) (base : Heap) (aT : Addr) (fS fU fB fT : Addr) : Prop where
  s : Held P w K mg base 5 fS spSum
  u : Held P w K mg base 5 fU spUnlike
  b : Held P w K mg base 5 fB spBench
  t : Held P w K mg base 5 fT spTable
  is : KDct K w aT "sum" (.ref fS)
  iu : KDct K w aT "unlike" (.ref fU)
  ib : KDct K w aT "bench" (.ref fB)
  it : KDct K w aT "table" (.ref fT)
  nd : [fS, fU, fB, fT].Nodup
def tests (fS fU fB fT : Addr) (f : Addr) : Option Sp := if f = fS then some spSum else if f = fU then some spUnlike else if f = fB then some spBench else if f = fT then some spTable else none
abbrev s_is_wish : Stmt := topS 14
abbrev n_is_wish : List Str := ["value", "size", "test"]
theorem sc_is_wish : FnScope n_is_wish ["value", "size"] (defScope s_is_wish) := ⟨rfl, rfl, rfl, by decide +kernel, rfl, by decide +kernel, by decide +kernel⟩
def spWish : Sp := fun vs H Q _ => ∃ (v : V) (n : Nat) (x : Wish), vs = [v, .int n] ∧ WV H v x ∧ WishOk n x ∧ ∀ H', Same H H' → Q (.bl true) H'
theorem ok_is_wish {f fS fU fB fT : Addr} {fd : FuncData} (F : Fun K "is_wish" "is_wish" s_is_wish f fd) (T : Txt K mg w aW aT es nn) (S : Tst P w K mg base aT fS fU fB fT) : FnOk P w K mg base CX0 6 f fd ["value", "size"] spWish := by
  obtain ⟨n1, n2⟩ := List.nodup_cons.mp S.nd
  obtain ⟨n3, n4⟩ := List.nodup_cons.mp n2
  obtain ⟨n5, n6⟩ := List.nodup_cons.mp n4
  have u1 : fU ≠ fS := fun e => n1 (by simp [e])
  have b1 : fB ≠ fS := fun e => n1 (by simp [e])
  have t1 : fT ≠ fS := fun e => n1 (by simp [e])
  have b2 : fB ≠ fU := fun e => n3 (by simp [e])
  have t2 : fT ≠ fU := fun e => n3 (by simp [e])
  have t3 : fT ≠ fB := fun e => n5 (by simp [e])
  have ts : tests fS fU fB fT fS = some spSum := if_pos rfl
  have tu : tests fS fU fB fT fU = some spUnlike := by unfold tests; rw [if_neg u1, if_pos rfl]
  have tb : tests fS fU fB fT fB = some spBench := by unfold tests; rw [if_neg b1, if_neg b2, if_pos rfl]
  have tt : tests fS fU fB fT fT = some spTable := by unfold tests; rw [if_neg t1, if_neg t2, if_neg t3, if_pos rfl]
  have AH : ∀ f sp, tests fS fU fB fT f = some sp → Held P w K mg base 5 f sp := fun f sp h => by
    by_cases e1 : f = fS
    · subst e1; rw [ts] at h; cases h; exact S.s
    by_cases e2 : f = fU
    · subst e2; rw [tu] at h; cases h; exact S.u
    by_cases e3 : f = fB
    · subst e3; rw [tb] at h; cases h; exact S.b
    by_cases e4 : f = fT
    · subst e4; rw [tt] at h; cases h; exact S.t
    unfold tests at h
    rw [if_neg e1, if_neg e2, if_neg e3, if_neg e4] at h
    cases h
  refine F.ok sc_is_wish (fun vs H Q E h => ?_) (fun cdv A outer s H vs Q E hr h => ?_)
  · obtain ⟨v, n, x, rfl, _⟩ := h
    rfl
  · obtain ⟨v, n, x, rfl, wv, ok, q⟩ := h
    refine ⟨_, (pss_cons (ps_if (PW.pt (pw_or (pt_not (pt_val (pe_callB call_isE (by rfl) T.b_isinstance (by decide +kernel) (pa_cons (pv 0) (pa_cons (pe_bltn (v := .ty "tuple") (by rfl) T.b_tuple boot_tuple rfl) pa_nil))))) (pw_or (pt_not (pt_truth (pv 0) (by intro _; rfl))) (pw_or1 (pt_not (pt_val (pe_callB call_isE (by rfl) T.b_isinstance (by decide +kernel) (pa_cons (pe_ix ix_tup (pv 0) pe_int (fun _ _ => rfl)) (pa_cons (pe_bltn (v := .ty "str") (by rfl) T.b_str boot_str rfl) pa_nil))))))))) (pss_one (ps_ret pe_bl)) pss_nil)
      (pss_cons (ps_if (pt_cmpR (op_notIn_kd T.kd) (pe_ix ix_tup (pv 0) pe_int (fun _ _ => rfl)) (pe_gc (by rfl) T.c_WISH_TESTS) (by rfl)) (pss_one (ps_ret pe_bl)) pss_nil)
      (pss_cons (ps_set (i := 2) sc_is_wish.nd rfl (.inl rfl) (pe_ix ix_kdict (pe_gc (by rfl) T.c_WISH_TESTS) (pe_ix ix_tup (pv 0) pe_int (fun _ _ => rfl)) (fun _ _ => rfl)))
      (pss_one (ps_ret (pe_callA (i := 2) AH hr rfl (.inl rfl) (pa_cons (pv 0) (pa_cons (pv 1) pa_nil)))))))), ?_⟩
    obtain ⟨p, wd, rs, f1, rfl, hp, hd, rest⟩ : ∃ p wd rs f1, v = .ref p ∧ H p = some (.tup (.str wd :: rs)) ∧ KDct K w aT wd (.ref f1) ∧ (∃ sp, tests fS fU fB fT f1 = some sp ∧ sp [.ref p, .int n] H Q (fun _ _ _ => False)) := by
      cases x with
      | sum r =>
        obtain ⟨p, qa, rfl, hp, hq⟩ := wv
        exact ⟨p, "sum", _, fS, rfl, hp, S.is, _, ts, .ref p, n, r, rfl, ⟨p, qa, rfl, hp, hq⟩, ok.1, ok.2, fun H' s' => q _ s'⟩
      | unlike a =>
        obtain ⟨p, u, rfl, hp, lv⟩ := wv
        exact ⟨p, "unlike", _, fU, rfl, hp, S.iu, _, tu, p, _, u, n, a, rfl, hp, lv, ok.1, ok.2.1, ok.2.2.1, ok.2.2.2, fun H' s' => q _ s'⟩
      | bench js =>
        obtain ⟨p, u, rfl, hp, jv⟩ := wv
        exact ⟨p, "bench", _, fB, rfl, hp, S.ib, _, tb, p, _, u, n, js, rfl, hp, jv, ok, fun H' s' => q _ s'⟩
      | table a ls =>
        obtain ⟨p, u, t, rfl, hp, lv, jv⟩ := wv
        exact ⟨p, "table", _, fT, rfl, hp, S.it, _, tt, p, _, u, t, n, a, ls, rfl, hp, lv, jv, ok, fun H' s' => q _ s'⟩
    obtain ⟨sp, hsp, run⟩ := rest
    refine ⟨_, rfl, .ref p, .type "tuple", "tuple", true, rfl, .base (.base (.tup hp)), by rfl, true, rfl, iteF ?_⟩
    obtain ⟨es', n', u', hk1, hk2, hk3, hk4⟩ := id hd
    refine ⟨_, rfl, true, .inr (.inl ⟨_, sq_tup hp, rfl⟩), iteF ?_⟩
    refine ⟨_, rfl, p, _, 0, _, rfl, rfl, sq_tup hp, atI_nat (j := 0) rfl, .str wd, .type "str", "str", true, rfl, .base (.base (.str wd)), by rfl, true, rfl, iteF ?_⟩
    refine ⟨_, rfl, p, _, 0, _, rfl, rfl, sq_tup hp, atI_nat (j := 0) rfl, wd, some u', rfl, rfl, hk3, _, rfl, iteF ?_⟩
    refine ⟨_, rfl, p, _, 0, _, rfl, rfl, sq_tup hp, atI_nat (j := 0) rfl, aT, wd, _, rfl, rfl, hd, ?_⟩
    exact ⟨f1, sp, rfl, hsp, _, rfl, _, rfl, run⟩
end
end M57

namespace M57
open PySem PySem.Spec PyProof.Rows L2 SX Own Gd
open C8 (Cal pe_c pe_gc pe_mk Mak pss_cut)
/-! ### tasks -/
structure NmOk (s : Str) : Prop where
  l1 : 1 ≤ s.length
  l6 : s.length ≤ 6
  let_ : ∀ c ∈ s.cps.toList, c ∈ ("abcdefghijklmnopqrstuvwxyz" : Str).cps.toList
  w : inV (.str s) (wordsL.map V.str) = false
abbrev Unk := Str × Int × Int
def UV (H : Hp) (v : V) (u : Unk) : Prop := ∃ p, v = .ref p ∧ H p = some (.tup [.str u.1, .int u.2.1, .int u.2.2])
inductive UVs (H : Hp) : List V → List Unk → Prop
  | nil : UVs H [] []
  | cons {v : V} {vs : List V} {a : Unk} {as : List Unk} : UV H v a → UVs H vs as → UVs H (v :: vs) (a :: as)
theorem UV.same {H H' : Hp} {v : V} {u : Unk} (h : UV H v u) (s : Same H H') : UV H' v u := by
  obtain ⟨p, e, f⟩ := h
  exact ⟨p, e, s _ _ f⟩
theorem UVs.same {H H' : Hp} (s : Same H H') : ∀ {vs : List V} {as : List Unk}, UVs H vs as → UVs H' vs as
  | _, _, .nil => .nil
  | _, _, .cons h t => .cons (h.same s) (t.same s)
theorem UVs.len {H : Hp} : ∀ {vs : List V} {as : List Unk}, UVs H vs as → vs.length = as.length
  | _, _, .nil => rfl
  | _, _, .cons _ t => congrArg (· + 1) t.len
theorem UVs.at_ {H : Hp} : ∀ {vs : List V} {as : List Unk} {i : Nat} {v : V}, UVs H vs as → vs[i]? = some v → ∃ a, as[i]? = some a ∧ UV H v a
  | _, _, 0, _, .cons h t, e => by
    cases e
    exact ⟨_, rfl, h⟩
  | _, _, i + 1, _, .cons h t, e => by
    obtain ⟨r, e1, e2⟩ := t.at_ (i := i) (by simpa using e)
    exact ⟨r, by simpa using e1, e2⟩
structure UnkOk (us : List Unk) : Prop where
  ne : 1 ≤ us.length
  few : us.length ≤ 100
  nm : ∀ u ∈ us, NmOk u.1
  or_ : ∀ u ∈ us, u.2.1 ≤ u.2.2
  inc : ∀ i u v, us[i]? = some u → us[i + 1]? = some v → u.1.cps.toList < v.1.cps.toList
inductive WVs (H : Hp) : List V → List Wish → Prop
  | nil : WVs H [] []
  | cons {v : V} {vs : List V} {a : Wish} {as : List Wish} : WV H v a → WVs H vs as → WVs H (v :: vs) (a :: as)
theorem WVs.same {H H' : Hp} (s : Same H H') : ∀ {vs : List V} {as : List Wish}, WVs H vs as → WVs H' vs as
  | _, _, .nil => .nil
  | _, _, .cons h t => .cons (h.same s) (t.same s)
theorem WVs.len {H : Hp} : ∀ {vs : List V} {as : List Wish}, WVs H vs as → vs.length = as.length
  | _, _, .nil => rfl
  | _, _, .cons _ t => congrArg (· + 1) t.len
theorem WVs.at_ {H : Hp} : ∀ {vs : List V} {as : List Wish} {i : Nat} {v : V}, WVs H vs as → vs[i]? = some v → ∃ a, as[i]? = some a ∧ WV H v a
  | _, _, 0, _, .cons h t, e => by
    cases e
    exact ⟨_, rfl, h⟩
  | _, _, i + 1, _, .cons h t, e => by
    obtain ⟨r, e1, e2⟩ := t.at_ (i := i) (by simpa using e)
    exact ⟨r, by simpa using e1, e2⟩
section
variable {P : Program} {w : World} {K : PySem.W.Frag} {mg : Str → Option Value} {base : Heap} {aW aT : Addr} {es : Array DictEntry} {nn : Nat}
abbrev s_is_name : Stmt := topS 31
abbrev n_is_name : List Str := ["value", "sign"]
theorem sc_is_name : FnScope n_is_name ["value"] (defScope s_is_name) := ⟨rfl, rfl, rfl, by decide +kernel, rfl, by decide +kernel, by decide +kernel⟩
def spName : Sp := fun vs H Q _ => ∃ s : Str, vs = [.str s] ∧ NmOk s ∧ ∀ H', Same H H' → Q (.bl true) H'
theorem ok_is_name {f : Addr} {fd : FuncData} (F : Fun K "is_name" "is_name" s_is_name f fd) (T : Txt K mg w aW aT es nn) : FnOk P w K mg base CX0 1 f fd ["value"] spName := by
  refine F.ok sc_is_name (fun vs H Q E h => ?_) (fun cdv A outer s0 H vs Q E hr h => ?_)
  · obtain ⟨s, rfl, _⟩ := h
    rfl
  · obtain ⟨s, rfl, ok, q⟩ := h
    have l1 := ok.l1
    have l6 := ok.l6
    refine ⟨_, (pss_cons (ps_if (PW.pt (pw_or (pt_not (pt_val (pe_callB call_isE (by rfl) T.b_isinstance (by decide +kernel) (pa_cons (pv 0) (pa_cons (pe_bltn (v := .ty "str") (by rfl) T.b_str boot_str rfl) pa_nil))))) (pw_or (pt_not (pt_chain op_le op_le pe_int (pe_callB call_len_str (by rfl) T.b_len (by decide +kernel) (pa_cons (pv 0) pa_nil)) (pe_gc (by rfl) T.c_LONGEST_NAME))) (pw_or1 (pt_cmpR op_in_seq (pv 0) (pe_gc (by rfl) T.c_WORDS) (by rfl)))))) (pss_one (ps_ret pe_bl)) pss_nil)
      (pss_one (ps_ret (pe_callB (cr_all rfl) (by rfl) T.b_all (by decide +kernel) (pa_cons (pe_lc (own := [("sign", 1)]) rfl sc_is_name.nd (pi_str (pv 0)) (blkOk_by (N := n_is_name) (sc := defScope s_is_name) (by decide +kernel)) (fun _ _ _ _ _ => (pg_name (i := 1) sc_is_name.nd rfl (.inl rfl))) (fun _ _ _ _ _ => pts_nil) (fun _ _ _ _ _ => (pe_cmpR op_in_sign (pv 1) (pe_gc (by rfl) T.c_LETTERS) (by rfl)))) pa_nil))))), ?_⟩
    refine ⟨_, rfl, .str s, .type "str", "str", true, rfl, .base (.base (.str s)), by rfl, true, rfl, iteF ?_⟩
    refine ⟨_, rfl, s, rfl, Nat.le_trans l6 (by rw [sizeLine_eq]; decide), _, _, rfl, rfl, _, rfl, ite2 (fun _ => ?_) (fun h => absurd (decide_eq_true (show (1 : Int) ≤ (s.length : Int) by omega)) h)⟩
    refine ⟨_, _, rfl, rfl, _, rfl, ite2 (fun h => ?_) (fun _ => ?_)⟩
    · exact absurd h (by simp; omega)
    refine ⟨_, rfl, aW, _, rfl, .inr (T.qW H), rfl, by decide, _, rfl, ite2 (fun h => ?_) (fun _ => ?_)⟩
    · have h : inV (.str s) (wordsL.map V.str) = true := h
      rw [ok.w] at h
      cases h
    refine ⟨_, rfl, s, rfl, fun D nD => ?_⟩
    refine walk_str (x := s) (fun i H' => H' D = some (.lst ((List.replicate i true).map V.bl)) ∧ Same H H') ⟨upd_same, same_upd nD⟩ ?_ ?_
    · rintro i c H2 hc ⟨hD, sm⟩
      have li : i < s.cps.size := (Array.getElem?_eq_some_iff.mp hc).1
      have sl : s.cps.size = s.length := rfl
      have mc : c ∈ s.cps.toList := Array.mem_toList_iff.mpr (Array.mem_of_getElem? hc)
      refine ⟨rfl, _, rfl, c, _, rfl, rfl, _, hD, (by rw [List.length_map, List.length_replicate]; exact small1000 (by omega)), ?_, same_at sm nD⟩
      rw [upd_same, rep_app, decide_eq_true (ok.let_ c mc)]
    · rintro H2 ⟨hD, sm⟩
      refine ⟨D, _, rfl, sq_lst hD, ?_⟩
      rw [reps]
      exact q _ sm
abbrev s_is_pair : Stmt := topS 32
abbrev n_is_pair : List Str := ["value"]
theorem sc_is_pair : FnScope n_is_pair ["value"] (defScope s_is_pair) := ⟨rfl, rfl, rfl, by decide +kernel, rfl, by decide +kernel, by decide +kernel⟩
def spPair : Sp := fun vs H Q _ => ∃ (p : Addr) (a b : Int), vs = [.ref p] ∧ H p = some (.tup [.int a, .int b]) ∧ a ≤ b ∧ Q (.bl true) H
theorem ok_is_pair {f : Addr} {fd : FuncData} (F : Fun K "is_pair" "is_pair" s_is_pair f fd) (T : Txt K mg w aW aT es nn) (c_is_whole : Cal P w K mg base 1 "is_whole" spWhole []) : FnOk P w K mg base CX0 2 f fd ["value"] spPair := by
  refine F.ok sc_is_pair (fun vs H Q E h => ?_) (fun cdv A outer s0 H vs Q E hr h => ?_)
  · obtain ⟨p, a, b, rfl, _⟩ := h
    rfl
  · obtain ⟨p, a, b, rfl, hp, ab, q⟩ := h
    refine ⟨_, (pss_cons (ps_if (PW.pt (pw_or (pt_not (pt_val (pe_callB call_isE (by rfl) T.b_isinstance (by decide +kernel) (pa_cons (pv 0) (pa_cons (pe_bltn (v := .ty "tuple") (by rfl) T.b_tuple boot_tuple rfl) pa_nil))))) (pw_or1 (pt_cmpR op_ne (pe_callB call_len_seq (by rfl) T.b_len (by decide +kernel) (pa_cons (pv 0) pa_nil)) pe_int (nomark _))))) (pss_one (ps_ret pe_bl)) pss_nil)
      (pss_one (ps_ret (pe_and (pe_c c_is_whole hr (by decide) (by rfl) (pa_cons (pe_ix ix_tup (pv 0) pe_int (fun _ _ => rfl)) pa_nil)) (pe_and (pe_c c_is_whole hr (by decide) (by rfl) (pa_cons (pe_ix ix_tup (pv 0) pe_int (fun _ _ => rfl)) pa_nil)) (pe_one (pe_cmpR op_le (pe_ix ix_tup (pv 0) pe_int (fun _ _ => rfl)) (pe_ix ix_tup (pv 0) pe_int (fun _ _ => rfl)) (nomark _)))))))), ?_⟩
    refine ⟨_, rfl, .ref p, .type "tuple", "tuple", true, rfl, .base (.base (.tup hp)), by rfl, true, rfl, iteF ?_⟩
    refine ⟨_, rfl, p, _, rfl, .inr (sq_tup hp), rfl, _, rfl, iteF ?_⟩
    refine ⟨_, rfl, p, _, 0, _, rfl, rfl, sq_tup hp, rfl, a, rfl, true, rfl, iteT ?_⟩
    refine ⟨_, rfl, p, _, 1, _, rfl, rfl, sq_tup hp, rfl, b, rfl, true, rfl, iteT ?_⟩
    refine ⟨_, rfl, p, _, 0, _, rfl, rfl, sq_tup hp, rfl, _, rfl, p, _, 1, _, rfl, rfl, sq_tup hp, rfl, _, _, rfl, rfl, ?_⟩
    rw [show (fun i j : Int => V.bl (decide (i ≤ j))) a b = V.bl true from congrArg V.bl (decide_eq_true ab)]
    exact q
abbrev s_is_unknown : Stmt := topS 33
abbrev n_is_unknown : List Str := ["value"]
theorem sc_is_unknown : FnScope n_is_unknown ["value"] (defScope s_is_unknown) := ⟨rfl, rfl, rfl, by decide +kernel, rfl, by decide +kernel, by decide +kernel⟩
def spUnknown : Sp := fun vs H Q _ => ∃ (v : V) (u : Unk), vs = [v] ∧ UV H v u ∧ NmOk u.1 ∧ u.2.1 ≤ u.2.2 ∧ ∀ H', Same H H' → Q (.bl true) H'
theorem ok_is_unknown {f : Addr} {fd : FuncData} (F : Fun K "_is_unknown" "_is_unknown" s_is_unknown f fd) (T : Txt K mg w aW aT es nn) (c_is_name : Cal P w K mg base 1 "is_name" spName []) (c_is_pair : Cal P w K mg base 2 "is_pair" spPair []) : FnOk P w K mg base CX0 3 f fd ["value"] spUnknown := by
  refine F.ok sc_is_unknown (fun vs H Q E h => ?_) (fun cdv A outer s0 H vs Q E hr h => ?_)
  · obtain ⟨v, u, rfl, _⟩ := h
    rfl
  · obtain ⟨v, ⟨s, lo, hi⟩, rfl, ⟨p, rfl, hp⟩, ok, lh, q⟩ := h
    refine ⟨_, (pss_cons (ps_if (PW.pt (pw_or (pt_not (pt_val (pe_callB call_isE (by rfl) T.b_isinstance (by decide +kernel) (pa_cons (pv 0) (pa_cons (pe_bltn (v := .ty "tuple") (by rfl) T.b_tuple boot_tuple rfl) pa_nil))))) (pw_or1 (pt_cmpR op_ne (pe_callB call_len_seq (by rfl) T.b_len (by decide +kernel) (pa_cons (pv 0) pa_nil)) pe_int (nomark _))))) (pss_one (ps_ret pe_bl)) pss_nil)
      (pss_one (ps_ret (pe_and (pe_c c_is_name hr (by decide) (by rfl) (pa_cons (pe_ix ix_tup (pv 0) pe_int (fun _ _ => rfl)) pa_nil)) (pe_one (pe_c c_is_pair hr (by decide) (by rfl) (pa_cons (pe_slice sl_tupA (pv 0) (po_some pe_int) po_none) pa_nil))))))), ?_⟩
    refine ⟨_, rfl, .ref p, .type "tuple", "tuple", true, rfl, .base (.base (.tup hp)), by rfl, true, rfl, iteF ?_⟩
    refine ⟨_, rfl, p, _, rfl, .inr (sq_tup hp), rfl, _, rfl, iteF ?_⟩
    refine ⟨_, rfl, p, _, 0, _, rfl, rfl, sq_tup hp, rfl, s, rfl, ok, fun H1 s1 => ⟨true, rfl, iteT ?_⟩⟩
    refine ⟨_, rfl, _, rfl, p, _, rfl, sq_tup (s1 _ _ hp), (fun z => absurd (show (1 : Nat) = 0 from z.1) (by decide)), fun _ y ny => ?_⟩
    refine ⟨y, lo, hi, rfl, upd_same, lh, q _ (s1.trans (same_upd ny))⟩
abbrev s_check_unknowns : Stmt := topS 34
abbrev n_check_unknowns : List Str := ["value", "at", "item"]
theorem sc_check_unknowns : FnScope n_check_unknowns ["value"] (defScope s_check_unknowns) := ⟨rfl, rfl, rfl, by decide +kernel, rfl, by decide +kernel, by decide +kernel⟩
def spChU : Sp := fun vs H Q _ => ∃ (p : Addr) (us : List V) (ul : List Unk), vs = [.ref p] ∧ H p = some (.tup us) ∧ UVs H us ul ∧ UnkOk ul ∧ ∀ H', Same H H' → Q .non H'
theorem ok_check_unknowns {f : Addr} {fd : FuncData} (F : Fun K "_check_unknowns" "_check_unknowns" s_check_unknowns f fd) (T : Txt K mg w aW aT es nn) (c_is_unknown : Cal P w K mg base 3 "_is_unknown" spUnknown []) : FnOk P w K mg base CX0 4 f fd ["value"] spChU := by
  refine F.ok sc_check_unknowns (fun vs H Q E h => ?_) (fun cdv A outer s0 H vs Q E hr h => ?_)
  · obtain ⟨p, us, ul, rfl, _⟩ := h
    rfl
  · obtain ⟨p, us, ul, rfl, hp, uv, ok, q⟩ := h
    have ne := ok.ne
    have lu := uv.len
    refine ⟨_, (pss_cons (ps_if (PW.pt (pw_or (pt_not (pt_val (pe_callB call_isE (by rfl) T.b_isinstance (by decide +kernel) (pa_cons (pv 0) (pa_cons (pe_bltn (v := .ty "tuple") (by rfl) T.b_tuple boot_tuple rfl) pa_nil))))) (pw_or1 (pt_not (pt_truth (pv 0) (by intro _; rfl)))))) (pss_one ps_dead) pss_nil)
      (pss_one (ps_for PassesOwn.never rfl (pi_enT (by rfl) T.b_enumerate (pa_cons (pv 0) pa_nil)) (pg_tup rfl (pgs_cons (pg_name (i := 1) sc_check_unknowns.nd rfl (.inl rfl)) (pgs_cons (pg_name (i := 2) sc_check_unknowns.nd rfl (.inl rfl)) pgs_nil))) (pss_one (ps_if (PW.pt (pw_or (pt_not (pt_val (pe_c c_is_unknown hr (by decide) (by rfl) (pa_cons (pv 2) pa_nil)))) (pw_or1 (PW.pt (pw_and (pt_cmpR op_gt (pv 1) pe_int (nomark _)) (pw_and1 (pt_cmpR op_le_str (pe_ix ix_tup (pv 2) pe_int (fun _ _ => rfl)) (pe_ix ix_tup (pe_ix ix_tup (pv 0) (pe_op op_sub (pv 1) pe_int) (fun _ _ => rfl)) pe_int (fun _ _ => rfl)) (nomark _)))))))) (pss_one ps_dead) pss_nil))))), ?_⟩
    refine ⟨_, rfl, .ref p, .type "tuple", "tuple", true, rfl, .base (.base (.tup hp)), by rfl, true, rfl, iteF ?_⟩
    refine ⟨_, rfl, true, .inr (.inl ⟨us, sq_tup hp, by cases us with | nil => simp at lu; omega | cons a b => rfl⟩), iteF ?_⟩
    refine ⟨_, rfl, p, us, rfl, sq_tup hp, for_enT (K := K) (a := p) (xs := us) (fun i σ H' => ∃ (y1 y2 : Option V), σ = [some (.ref p), y1, y2] ∧ Same H H')
      ⟨none, none, rfl, Same.refl _⟩ (fun i σ H' h => ?_) (fun i x T' σ H' hx h nT => ?_) (fun σ H' h => ?_)⟩
    · obtain ⟨y1, y2, rfl, sm⟩ := h
      exact sq_tup (sm _ _ hp)
    · obtain ⟨y1, y2, rfl, sm⟩ := h
      obtain ⟨u, hu, pu, rfl, hpu⟩ := uv.at_ hx
      have mu := List.mem_of_getElem? hu
      have sT := same_at (o := .tup [.int (i : Nat), .ref pu]) sm (sm.free nT)
      refine ⟨T', _, rfl, sq_tup upd_same, rfl, _, _, rfl, _, _, rfl, rfl, ?_⟩
      refine ⟨_, rfl, .ref pu, u, rfl, ⟨pu, rfl, sT _ _ hpu⟩, ok.nm u mu, ok.or_ u mu, fun H2 s2 => ⟨true, rfl, iteF ?_⟩⟩
      have s02 := sT.trans s2
      refine ⟨_, rfl, _, _, rfl, rfl, _, rfl, ite2 (fun h1 => ?_) (fun h1 => iteF ⟨_, _, rfl, s02⟩)⟩
      have h1 : (0 : Int) < (i : Int) := of_decide_eq_true h1
      obtain ⟨i', rfl⟩ : ∃ i', i = i' + 1 := ⟨i - 1, by omega⟩
      have hi' : i' < ul.length := by have := (List.getElem?_eq_some_iff.mp hu).1; omega
      have hx' : us[i']? = some us[i'] := List.getElem?_eq_getElem (by omega)
      obtain ⟨u', hu', pu', ex', hpu'⟩ := uv.at_ hx'
      have lt := ok.inc i' u' u hu' hu
      rw [ex'] at hx'
      refine ⟨_, rfl, pu, _, 0, _, rfl, rfl, sq_tup (s02 _ _ hpu), rfl, _, rfl, _, rfl, _, _, rfl, rfl, p, _, _, .ref pu', rfl, rfl, sq_tup (s02 _ _ hp), ?_, pu', _, 0, _, rfl, rfl, sq_tup (s02 _ _ hpu'), rfl, _, _, rfl, rfl, _, rfl, ?_⟩
      · rw [show (((i' + 1 : Nat) : Int) - 1) = (i' : Int) by omega]
        exact atI_nat hx'
      · rw [decide_eq_true lt]
        exact iteF ⟨_, _, rfl, s02⟩
    · obtain ⟨y1, y2, rfl, sm⟩ := h
      exact q _ sm
abbrev s_check_wishes : Stmt := topS 35
abbrev n_check_wishes : List Str := ["value", "size", "at", "item"]
theorem sc_check_wishes : FnScope n_check_wishes ["value", "size"] (defScope s_check_wishes) := ⟨rfl, rfl, rfl, by decide +kernel, rfl, by decide +kernel, by decide +kernel⟩
def spChW : Sp := fun vs H Q _ => ∃ (p : Addr) (us : List V) (n : Nat) (wl : List Wish), vs = [.ref p, .int n] ∧ H p = some (.tup us) ∧ WVs H us wl ∧ (∀ x ∈ wl, WishOk n x) ∧ ∀ H', Same H H' → Q .non H'
theorem ok_check_wishes {f : Addr} {fd : FuncData} (F : Fun K "_check_wishes" "_check_wishes" s_check_wishes f fd) (T : Txt K mg w aW aT es nn) (c_is_wish : Cal P w K mg base 6 "is_wish" spWish []) : FnOk P w K mg base CX0 7 f fd ["value", "size"] spChW := by
  refine F.ok sc_check_wishes (fun vs H Q E h => ?_) (fun cdv A outer s0 H vs Q E hr h => ?_)
  · obtain ⟨p, us, n, wl, rfl, _⟩ := h
    rfl
  · obtain ⟨p, us, n, wl, rfl, hp, wv, ok, q⟩ := h
    refine ⟨_, (pss_cons (ps_if (pt_not (pt_val (pe_callB call_isE (by rfl) T.b_isinstance (by decide +kernel) (pa_cons (pv 0) (pa_cons (pe_bltn (v := .ty "tuple") (by rfl) T.b_tuple boot_tuple rfl) pa_nil))))) (pss_one ps_dead) pss_nil)
      (pss_one (ps_for PassesOwn.never rfl (pi_enT (by rfl) T.b_enumerate (pa_cons (pv 0) pa_nil)) (pg_tup rfl (pgs_cons (pg_name (i := 2) sc_check_wishes.nd rfl (.inl rfl)) (pgs_cons (pg_name (i := 3) sc_check_wishes.nd rfl (.inl rfl)) pgs_nil))) (pss_one (ps_if (pt_not (pt_val (pe_c c_is_wish hr (by decide) (by rfl) (pa_cons (pv 3) (pa_cons (pv 1) pa_nil))))) (pss_one ps_dead) pss_nil))))), ?_⟩
    refine ⟨_, rfl, .ref p, .type "tuple", "tuple", true, rfl, .base (.base (.tup hp)), by rfl, true, rfl, iteF ?_⟩
    refine ⟨_, rfl, p, us, rfl, sq_tup hp, for_enT (K := K) (a := p) (xs := us) (fun i σ H' => ∃ (y1 y2 : Option V), σ = [some (.ref p), some (.int (n : Int)), y1, y2] ∧ Same H H')
      ⟨none, none, rfl, Same.refl _⟩ (fun i σ H' h => ?_) (fun i x T' σ H' hx h nT => ?_) (fun σ H' h => ?_)⟩
    · obtain ⟨y1, y2, rfl, sm⟩ := h
      exact sq_tup (sm _ _ hp)
    · obtain ⟨y1, y2, rfl, sm⟩ := h
      obtain ⟨u, hu, wu⟩ := wv.at_ hx
      have mu := List.mem_of_getElem? hu
      have sT := same_at (o := .tup [.int (i : Nat), x]) sm (sm.free nT)
      refine ⟨T', _, rfl, sq_tup upd_same, rfl, _, _, rfl, _, _, rfl, rfl, ?_⟩
      exact ⟨_, rfl, _, rfl, x, n, u, rfl, wu.same sT, ok u mu, fun H2 s2 => ⟨true, rfl, iteF ⟨_, _, rfl, sT.trans s2⟩⟩⟩
    · obtain ⟨y1, y2, rfl, sm⟩ := h
      exact q _ sm
abbrev s_check_goal : Stmt := topS 36
abbrev n_check_goal : List Str := ["value", "size", "at", "item"]
theorem sc_check_goal : FnScope n_check_goal ["value", "size"] (defScope s_check_goal) := ⟨rfl, rfl, rfl, by decide +kernel, rfl, by decide +kernel, by decide +kernel⟩
def spChG : Sp := fun vs H Q _ => ∃ (v : V) (a : List Int), vs = [v, .int (a.length : Nat)] ∧ LV H v a ∧ ∀ H', Same H H' → Q .non H'
theorem ok_check_goal {f : Addr} {fd : FuncData} (F : Fun K "_check_goal" "_check_goal" s_check_goal f fd) (T : Txt K mg w aW aT es nn) (c_is_whole : Cal P w K mg base 1 "is_whole" spWhole []) : FnOk P w K mg base CX0 2 f fd ["value", "size"] spChG := by
  refine F.ok sc_check_goal (fun vs H Q E h => ?_) (fun cdv A outer s0 H vs Q E hr h => ?_)
  · obtain ⟨v, a, rfl, _⟩ := h
    rfl
  · obtain ⟨v, a, rfl, ⟨p, rfl, hp⟩, q⟩ := h
    refine ⟨_, (pss_cons (ps_if (PW.pt (pw_or (pt_not (pt_val (pe_callB call_isE (by rfl) T.b_isinstance (by decide +kernel) (pa_cons (pv 0) (pa_cons (pe_bltn (v := .ty "tuple") (by rfl) T.b_tuple boot_tuple rfl) pa_nil))))) (pw_or1 (pt_cmpR op_ne (pe_callB call_len_seq (by rfl) T.b_len (by decide +kernel) (pa_cons (pv 0) pa_nil)) (pv 1) (nomark _))))) (pss_one ps_dead) pss_nil)
      (pss_one (ps_for PassesOwn.never rfl (pi_enT (by rfl) T.b_enumerate (pa_cons (pv 0) pa_nil)) (pg_tup rfl (pgs_cons (pg_name (i := 2) sc_check_goal.nd rfl (.inl rfl)) (pgs_cons (pg_name (i := 3) sc_check_goal.nd rfl (.inl rfl)) pgs_nil))) (pss_one (ps_if (pt_not (pt_val (pe_c c_is_whole hr (by decide) (by rfl) (pa_cons (pv 3) pa_nil)))) (pss_one ps_dead) pss_nil))))), ?_⟩
    refine ⟨_, rfl, .ref p, .type "tuple", "tuple", true, rfl, .base (.base (.tup hp)), by rfl, true, rfl, iteF ?_⟩
    refine ⟨_, rfl, p, _, rfl, .inr (sq_tup hp), _, rfl, rfl, _, rfl, ite2 (fun h => absurd h (by simp)) (fun _ => ?_)⟩
    refine ⟨_, rfl, p, _, rfl, sq_tup hp, for_enT (K := K) (a := p) (xs := a.map V.int) (fun i σ H' => ∃ (y1 y2 : Option V), σ = [some (.ref p), some (.int (a.length : Nat)), y1, y2] ∧ Same H H')
      ⟨none, none, rfl, Same.refl _⟩ (fun i σ H' h => ?_) (fun i x T' σ H' hx h nT => ?_) (fun σ H' h => ?_)⟩
    · obtain ⟨y1, y2, rfl, sm⟩ := h
      exact sq_tup (sm _ _ hp)
    · obtain ⟨y1, y2, rfl, sm⟩ := h
      obtain ⟨c, hc, rfl⟩ := at_map hx
      have sT := same_at (o := .tup [.int (i : Nat), .int c]) sm (sm.free nT)
      refine ⟨T', _, rfl, sq_tup upd_same, rfl, _, _, rfl, _, _, rfl, rfl, ?_⟩
      exact ⟨_, rfl, c, rfl, true, rfl, iteF ⟨_, _, rfl, sT⟩⟩
    · obtain ⟨y1, y2, rfl, sm⟩ := h
      exact q _ sm
abbrev s_Task_init : Stmt := inS 30 0
abbrev n_Task_init : List Str := ["self", "unknowns", "wishes", "goal"]
theorem sc_Task_init : FnScope n_Task_init ["self", "unknowns", "wishes", "goal"] (defScope s_Task_init) := ⟨rfl, rfl, rfl, by decide +kernel, rfl, by decide +kernel, by decide +kernel⟩
/-- a task at x -/
def TaskV (C : Addr) (H : Hp) (v : V) (ul : List Unk) (wl : List Wish) (goal : List Int) : Prop := ∃ x dx pu pw pg us ws, v = .ref x ∧ H x = some (.ins C dx [("unknowns", .ref pu), ("wishes", .ref pw), ("goal", .ref pg)]) ∧ H pu = some (.tup us) ∧ UVs H us ul ∧ H pw = some (.tup ws) ∧ WVs H ws wl ∧ H pg = some (tI goal)
theorem put_ne {f g : Str} {v x : V} {r : List (Str × V)} (h : ¬ g = f) : putF f v ((g, x) :: r) = (g, x) :: putF f v r := if_neg h
theorem puts2 (u w : V) : putF "wishes" w (putF "unknowns" u []) = ([("unknowns", u), ("wishes", w)] : List (Str × V)) := put_ne (by decide)
theorem puts3 (u w g : V) : putF "goal" g (putF "wishes" w (putF "unknowns" u [])) = ([("unknowns", u), ("wishes", w), ("goal", g)] : List (Str × V)) := by
  rw [puts2, put_ne (by decide), put_ne (by decide)]; rfl
def spTask (C : Addr) : Sp := fun vs H Q _ => ∃ (x dx pu pw pg : Addr) (us ws : List V) (ul : List Unk) (wl : List Wish) (goal : List Int), vs = [.ref x, .ref pu, .ref pw, .ref pg] ∧ H x = some (.ins C dx []) ∧ H pu = some (.tup us) ∧ UVs H us ul ∧ H pw = some (.tup ws) ∧ WVs H ws wl ∧ H pg = some (tI goal) ∧
  UnkOk ul ∧ (∀ z ∈ wl, WishOk ul.length z) ∧ goal.length = ul.length ∧ ∀ H1, Same H H1 → Q .non (upd H1 x (.ins C dx [("unknowns", .ref pu), ("wishes", .ref pw), ("goal", .ref pg)]))
theorem ok_Task_init {f C : Addr} {fd : FuncData} (F : Fun K "__init__" "Task.__init__" s_Task_init f fd) (cl : Cls K C) (na : NoAttr K C "unknowns" ∧ NoAttr K C "wishes" ∧ NoAttr K C "goal") (T : Txt K mg w aW aT es nn) (c_check_unknowns : Cal P w K mg base 4 "_check_unknowns" spChU []) (c_check_wishes : Cal P w K mg base 7 "_check_wishes" spChW []) (c_check_goal : Cal P w K mg base 2 "_check_goal" spChG []) :
    FnOk P w K mg base CX0 8 f fd ["self", "unknowns", "wishes", "goal"] (spTask C) := by
  refine F.ok sc_Task_init (fun vs H Q E h => ?_) (fun cdv A outer s0 H vs Q E hr h => ?_)
  · obtain ⟨x, dx, pu, pw, pg, us, ws, ul, wl, goal, rfl, _⟩ := h
    rfl
  · obtain ⟨x, dx, pu, pw, pg, us, ws, ul, wl, goal, rfl, hx, hpu, uv, hpw, wv, hpg, uo, wo, lg, q⟩ := h
    refine ⟨_, (pss_cons (ps_expr (pe_c c_check_unknowns hr (by decide) (by rfl) (pa_cons (pv 1) pa_nil)))
      (pss_cons (ps_expr (pe_c c_check_wishes hr (by decide) (by rfl) (pa_cons (pv 2) (pa_cons (pe_callB call_len_seq (by rfl) T.b_len (by decide +kernel) (pa_cons (pv 1) pa_nil)) pa_nil))))
      (pss_cons (ps_expr (pe_c c_check_goal hr (by decide) (by rfl) (pa_cons (pv 3) (pa_cons (pe_callB call_len_seq (by rfl) T.b_len (by decide +kernel) (pa_cons (pv 1) pa_nil)) pa_nil))))
      (pss_cons (ps_fld (pv 0) (pv 1) (by rfl))
      (pss_cons (ps_fld (pv 0) (pv 2) (by rfl))
      (pss_one (ps_fld (pv 0) (pv 3) (by rfl)))))))), ?_⟩
    refine ⟨_, rfl, pu, us, ul, rfl, hpu, uv, uo, fun H1 s1 => ?_⟩
    refine ⟨_, rfl, _, rfl, pu, _, rfl, .inr (sq_tup (s1 _ _ hpu)), pw, ws, ul.length, wl, by rw [uv.len]; rfl, s1 _ _ hpw, wv.same s1, wo, fun H2 s2 => ?_⟩
    have s12 := s1.trans s2
    refine ⟨_, rfl, _, rfl, pu, _, rfl, .inr (sq_tup (s12 _ _ hpu)), .ref pg, goal, by rw [uv.len, lg]; rfl, ⟨pg, rfl, s12 _ _ hpg⟩, fun H3 s3 => ?_⟩
    have s13 := s12.trans s3
    refine ⟨_, rfl, _, rfl, x, C, dx, [], rfl, s13 _ _ hx, cl, na.1, by decide, ?_⟩
    refine ⟨_, rfl, _, rfl, x, C, dx, _, rfl, upd_same, cl, na.2.1, by show 1 < 1000; decide, ?_⟩
    refine ⟨_, rfl, _, rfl, x, C, dx, _, rfl, upd_same, cl, na.2.2, ?_, ?_⟩
    · rw [puts2]; show 2 < 1000; decide
    rw [puts3, upd_upd, upd_upd]
    exact q _ s13
end
end M57

namespace M57
open PySem PySem.Spec PyProof.Rows L2 SX Own Gd
open C8 (Cal pe_c pe_gc pe_mk Mak pss_cut)
/-! ### tuples stay while lists change -/
def TK (H H' : Hp) : Prop := ∀ a xs, H a = some (.tup xs) → H' a = some (.tup xs)
theorem TK.of {H H' : Hp} (s : Same H H') : TK H H' := fun a xs e => s _ _ e
theorem TK.put {H : Hp} {l : Addr} {xs : List V} {o : HO} (e : H l = some (.lst xs)) : TK H (upd H l o) := fun a ys z => by
  rw [upd_ne (fun h => by rw [h, e] at z; cases z)]; exact z
theorem TK.trans {H H1 H2 : Hp} (x : TK H H1) (y : TK H1 H2) : TK H H2 := fun a xs e => y _ _ (x _ _ e)
theorem LV.tk {H H' : Hp} {v : V} {a : List Int} (h : LV H v a) (s : TK H H') : LV H' v a := by
  obtain ⟨p, e, hp⟩ := h
  exact ⟨p, e, s _ _ hp⟩
theorem LVs.tk {H H' : Hp} (s : TK H H') : ∀ {vs : List V} {as : List (List Int)}, LVs H vs as → LVs H' vs as
  | _, _, .nil => .nil
  | _, _, .cons h t => .cons (h.tk s) (t.tk s)
theorem UVs.tk {H H' : Hp} (s : TK H H') : ∀ {vs : List V} {as : List Unk}, UVs H vs as → UVs H' vs as
  | _, _, .nil => .nil
  | _, _, .cons ⟨p, e, h⟩ t => .cons ⟨p, e, s _ _ h⟩ (t.tk s)
theorem UVs.app {H : Hp} {v : V} {u : Unk} : ∀ {vs : List V} {as : List Unk}, UVs H vs as → UV H v u → UVs H (vs ++ [v]) (as ++ [u])
  | _, _, .nil, h => .cons h .nil
  | _, _, .cons g t, h => .cons g (t.app h)
theorem JV.tk {H H' : Hp} {v : V} {js : List (List Int)} (h : JV H v js) (s : TK H H') : JV H' v js := by
  obtain ⟨p, us, e, f, g⟩ := h
  exact ⟨p, us, e, s _ _ f, g.tk s⟩
theorem RV.tk {H H' : Hp} {v : V} {r : Row} (h : RV H v r) (s : TK H H') : RV H' v r := by
  obtain ⟨p, q, e, f, g⟩ := h
  exact ⟨p, q, e, s _ _ f, s _ _ g⟩
theorem WV.tk {H H' : Hp} {v : V} {x : Wish} (h : WV H v x) (s : TK H H') : WV H' v x := by
  cases x with
  | sum r => exact RV.tk h s
  | unlike a =>
    obtain ⟨p, u, e, f, g⟩ := h
    exact ⟨p, u, e, s _ _ f, g.tk s⟩
  | bench js =>
    obtain ⟨p, u, e, f, g⟩ := h
    exact ⟨p, u, e, s _ _ f, g.tk s⟩
  | table a ls =>
    obtain ⟨p, u, t, e, f, g, k⟩ := h
    exact ⟨p, u, t, e, s _ _ f, g.tk s, k.tk s⟩
theorem WVs.tk {H H' : Hp} (s : TK H H') : ∀ {vs : List V} {as : List Wish}, WVs H vs as → WVs H' vs as
  | _, _, .nil => .nil
  | _, _, .cons h t => .cons (h.tk s) (t.tk s)
/-! ### rows of a task -/
def sumsOf : List Wish → List Row
  | [] => []
  | .sum r :: t => r :: sumsOf t
  | .unlike _ :: t => sumsOf t
  | .bench _ :: t => sumsOf t
  | .table _ _ :: t => sumsOf t
theorem sumsOf_app : ∀ a b : List Wish, sumsOf (a ++ b) = sumsOf a ++ sumsOf b
  | [], b => rfl
  | .sum r :: t, b => congrArg (r :: ·) (sumsOf_app t b)
  | .unlike _ :: t, b => sumsOf_app t b
  | .bench _ :: t, b => sumsOf_app t b
  | .table _ _ :: t, b => sumsOf_app t b
theorem sumsOf_map (rs : List Row) : sumsOf (rs.map .sum) = rs := by
  induction rs with
  | nil => rfl
  | cons r t ih => exact congrArg (r :: ·) ih
theorem sumsOf_len (wl : List Wish) : (sumsOf wl).length ≤ wl.length := by
  induction wl with
  | nil => exact Nat.le_refl _
  | cons x t ih => cases x <;> simp only [sumsOf, List.length_cons] <;> omega
theorem sumsOf_mem {wl : List Wish} {r : Row} (h : r ∈ sumsOf wl) : Wish.sum r ∈ wl := by
  induction wl with
  | nil => simp [sumsOf] at h
  | cons x t ih =>
    cases x with
    | sum r' =>
      rcases List.mem_cons.mp h with e | h
      · rw [e]; exact List.mem_cons_self ..
      · exact List.mem_cons_of_mem _ (ih h)
    | unlike _ => exact List.mem_cons_of_mem _ (ih h)
    | bench _ => exact List.mem_cons_of_mem _ (ih h)
    | table _ _ => exact List.mem_cons_of_mem _ (ih h)
/-- a row with its number, as rows_of tells it -/
def RR (H : Hp) (v : V) (r : Row) : Prop := ∃ p k q2 qa, v = .ref p ∧ H p = some (.tup [.int k, .ref q2]) ∧ H q2 = some (.tup [.ref qa, .bl r.eq, .int r.bd]) ∧ H qa = some (tI r.am)
inductive All2 {α : Type} (R : V → α → Prop) : List V → List α → Prop
  | nil : All2 R [] []
  | cons {v : V} {vs : List V} {a : α} {as : List α} : R v a → All2 R vs as → All2 R (v :: vs) (a :: as)
theorem All2.mono {α : Type} {R R' : V → α → Prop} (h : ∀ v a, R v a → R' v a) : ∀ {vs : List V} {as : List α}, All2 R vs as → All2 R' vs as
  | _, _, .nil => .nil
  | _, _, .cons g t => .cons (h _ _ g) (t.mono h)
theorem All2.len {α : Type} {R : V → α → Prop} : ∀ {vs : List V} {as : List α}, All2 R vs as → vs.length = as.length
  | _, _, .nil => rfl
  | _, _, .cons _ t => congrArg (· + 1) t.len
theorem All2.app {α : Type} {R : V → α → Prop} {v : V} {a : α} : ∀ {vs : List V} {as : List α}, All2 R vs as → R v a → All2 R (vs ++ [v]) (as ++ [a])
  | _, _, .nil, h => .cons h .nil
  | _, _, .cons g t, h => .cons g (t.app h)
theorem All2.cat {α : Type} {R : V → α → Prop} : ∀ {vs : List V} {as : List α} {vs' : List V} {as' : List α}, All2 R vs as → All2 R vs' as' → All2 R (vs ++ vs') (as ++ as')
  | _, _, _, _, .nil, h => h
  | _, _, _, _, .cons g t, h => .cons g (t.cat h)
theorem All2.at_ {α : Type} {R : V → α → Prop} : ∀ {vs : List V} {as : List α} {i : Nat} {v : V}, All2 R vs as → vs[i]? = some v → ∃ a, as[i]? = some a ∧ R v a
  | _, _, 0, _, .cons h t, e => by
    cases e
    exact ⟨_, rfl, h⟩
  | _, _, i + 1, _, .cons h t, e => by
    obtain ⟨r, e1, e2⟩ := t.at_ (i := i) (by simpa using e)
    exact ⟨r, by simpa using e1, e2⟩
theorem All2.at2 {α : Type} {R : V → α → Prop} {vs : List V} {as : List α} {i : Nat} {a : α} (h : All2 R vs as) (e : as[i]? = some a) : ∃ v, vs[i]? = some v ∧ R v a := by
  have l := h.len
  have hi : i < vs.length := by rw [l]; exact (List.getElem?_eq_some_iff.mp e).1
  obtain ⟨a', e', g⟩ := h.at_ (List.getElem?_eq_getElem hi)
  rw [e] at e'
  cases e'
  exact ⟨_, List.getElem?_eq_getElem hi, g⟩
theorem All2.take {α : Type} {R : V → α → Prop} : ∀ (n : Nat) {vs : List V} {as : List α}, All2 R vs as → All2 R (vs.take n) (as.take n)
  | 0, _, _, _ => .nil
  | n + 1, _, _, .nil => .nil
  | n + 1, _, _, .cons g t => .cons g (t.take n)
theorem All2.drop {α : Type} {R : V → α → Prop} : ∀ (n : Nat) {vs : List V} {as : List α}, All2 R vs as → All2 R (vs.drop n) (as.drop n)
  | 0, _, _, h => h
  | n + 1, _, _, .nil => .nil
  | n + 1, _, _, .cons g t => t.drop n
theorem RR.same {H H' : Hp} {v : V} {r : Row} (h : RR H v r) (s : Same H H') : RR H' v r := by
  obtain ⟨p, k, q2, qa, e, f, g, i⟩ := h
  exact ⟨p, k, q2, qa, e, s _ _ f, s _ _ g, s _ _ i⟩
theorem RR.tk {H H' : Hp} {v : V} {r : Row} (h : RR H v r) (s : TK H H') : RR H' v r := by
  obtain ⟨p, k, q2, qa, e, f, g, i⟩ := h
  exact ⟨p, k, q2, qa, e, s _ _ f, s _ _ g, s _ _ i⟩
theorem walk_enT {K : PySem.W.Frag} {a : Addr} {xs : List V} : Walk (ItE K a) xs.length (fun H => SqT K H a xs) (YPair (fun i => some (.int (i : Nat))) (fun i => xs[i]?)) := by
  refine ⟨fun i _ hi q => ⟨xs, xs[i], q, by simp [hi]⟩, fun _ q => ⟨xs, q, rfl⟩, fun i H v H' _ q y => ?_⟩
  obtain ⟨T, x, h1, h2, h3, h4⟩ := y
  exact ⟨T, .int (i : Nat), x, h1, h2, h3, rfl, h4 xs q⟩
structure CC (K : PySem.W.Frag) (C : Addr) : Prop where
  cl : Cls K C
  nu : NoAttr K C "unknowns"
  nw : NoAttr K C "wishes"
  ng : NoAttr K C "goal"
theorem lk_u (a b c : V) : List.lookup ("unknowns" : Str) ([("unknowns", a), ("wishes", b), ("goal", c)] : List (Str × V)) = some a := by rfl
theorem lk_w (a b c : V) : List.lookup ("wishes" : Str) ([("unknowns", a), ("wishes", b), ("goal", c)] : List (Str × V)) = some b := by rfl
theorem lk_g (a b c : V) : List.lookup ("goal" : Str) ([("unknowns", a), ("wishes", b), ("goal", c)] : List (Str × V)) = some c := by rfl
theorem ixN_nat {n j : Nat} (h : j < n) : ixN n (j : Int) = some j := by
  unfold ixN
  rw [if_pos (by omega), if_pos (by omega)]; simp
theorem sums_take {wl : List Wish} {i : Nat} {x : Wish} (h : wl[i]? = some x) : sumsOf (wl.take (i + 1)) = sumsOf (wl.take i) ++ sumsOf [x] := by rw [take_one h, sumsOf_app]
theorem all2_of {α : Type} {R : V → α → Prop} : ∀ {vs : List V} {as : List α}, vs.length = as.length → (∀ (i : Nat) v a, vs[i]? = some v → as[i]? = some a → R v a) → All2 R vs as
  | [], [], _, _ => .nil
  | v :: vs, a :: as, l, h => .cons (h 0 v a rfl rfl) (all2_of (by simpa using l) fun i v a e f => h (i + 1) v a (by simpa using e) (by simpa using f))
  | [], _ :: _, l, _ => by simp at l
  | _ :: _, [], l, _ => by simp at l
theorem repf (n : Nat) (v : V) : (List.replicate n [v]).flatten = List.replicate n v := by
  induction n with
  | zero => rfl
  | succ n ih => rw [List.replicate_succ, List.flatten_cons, ih, List.replicate_succ]; rfl
def tL (a : List Int) : HO := .lst (a.map V.int)
abbrev Fr := Int × Int
def FV (H : Hp) (v : V) (f : Fr) : Prop := ∃ p, v = .ref p ∧ H p = some (.tup [.int f.1, .int f.2])
theorem FV.tk {H H' : Hp} {v : V} {f : Fr} (h : FV H v f) (s : TK H H') : FV H' v f := by
  obtain ⟨p, e, g⟩ := h
  exact ⟨p, e, s _ _ g⟩
def SV (H : Hp) (v : V) (st : List Fr) : Prop := ∃ p us, v = .ref p ∧ H p = some (.tup us) ∧ All2 (FV H) us st
theorem SV.tk {H H' : Hp} {v : V} {st : List Fr} (h : SV H v st) (s : TK H H') : SV H' v st := by
  obtain ⟨p, us, e, f, g⟩ := h
  exact ⟨p, us, e, s _ _ f, g.mono fun v x k => k.tk s⟩
theorem SV.same {H H' : Hp} {v : V} {st : List Fr} (h : SV H v st) (s : Same H H') : SV H' v st := h.tk (.of s)
def FrOk (f : Fr) : Prop := 0 < f.2 ∧ f.2 ≤ 1000000
theorem TK.kp {H H' : Hp} {h q : Addr} (k : Kpt h q H H') (a : HpAt H h q) : TK H H' := fun b xs e => by
  obtain ⟨cs, st, a⟩ := a
  exact k _ _ e (fun z => by rw [z, a.hh] at e; cases e) (fun z => by rw [z, a.hq] at e; cases e)
theorem cut48 (ns : List Int) : cutV (ns.map V.int) none (some 48) = (ns.take 48).map V.int := by
  unfold cutV
  rw [HT.sIx_none, show HT.sIx (ns.map V.int).length (ns.map V.int).length (some 48) = min 48 (ns.map V.int).length from HT.sIx_nat _ _ 48, List.drop_zero, Nat.sub_zero, List.map_take]
  by_cases h : 48 ≤ (ns.map V.int).length
  · rw [Nat.min_eq_left h]
  · rw [Nat.min_eq_right (by omega), List.take_length, List.take_of_length_le (by omega)]
/-! ### an item of a list or a tuple -/
def rIxA (K : PySem.W.Frag) : R2 := fun x y H Q => ∃ p xs i v, x = .ref p ∧ y = .int i ∧ (SqL K H p xs ∨ SqT K H p xs) ∧ atI xs i = some v ∧ Q v H
theorem ix_any {X : Cx} : IxR X (rIxA X.K) := by
  intro value slice pins s σ H x y v u Q I rx ry h hs
  obtain ⟨p, xs, i, z, rfl, rfl, hq, he, q⟩ := h
  rcases hq with hq | hq
  · exact ix_list value slice pins s σ H _ _ v u Q I rx ry ⟨p, xs, i, z, rfl, rfl, hq, he, q⟩ hs
  · exact ix_tup value slice pins s σ H _ _ v u Q I rx ry ⟨p, xs, i, z, rfl, rfl, hq, he, q⟩ hs
/-- integers in a list or a tuple -/
def AV (H : Hp) (v : V) (a : List Int) : Prop := ∃ p, v = .ref p ∧ (H p = some (tL a) ∨ H p = some (tI a))
theorem AV.seq {K : PySem.W.Frag} {H : Hp} {p : Addr} {a : List Int} (h : H p = some (tL a) ∨ H p = some (tI a)) : SqL K H p (a.map V.int) ∨ SqT K H p (a.map V.int) := h.elim (fun e => .inl (sq_lst e)) fun e => .inr (sq_tup e)
theorem AV.same {H H' : Hp} {v : V} {a : List Int} (h : AV H v a) (s : Same H H') : AV H' v a := by
  obtain ⟨p, e, g⟩ := h
  exact ⟨p, e, g.elim (fun e => .inl (s _ _ e)) fun e => .inr (s _ _ e)⟩
def SA (H : Hp) (v : V) (st : List Fr) : Prop := ∃ p us, v = .ref p ∧ (H p = some (.lst us) ∨ H p = some (.tup us)) ∧ All2 (FV H) us st
theorem SA.same {H H' : Hp} {v : V} {st : List Fr} (h : SA H v st) (s : Same H H') : SA H' v st := by
  obtain ⟨p, us, e, g, a⟩ := h
  exact ⟨p, us, e, g.elim (fun e => .inl (s _ _ e)) fun e => .inr (s _ _ e), a.mono fun v x k => k.tk (.of s)⟩
theorem SV.sa {H : Hp} {v : V} {st : List Fr} (h : SV H v st) : SA H v st := by
  obtain ⟨p, us, e, g, a⟩ := h
  exact ⟨p, us, e, .inr g, a⟩
theorem seqA {K : PySem.W.Frag} {H : Hp} {p : Addr} {us : List V} (h : H p = some (.lst us) ∨ H p = some (.tup us)) : SqL K H p us ∨ SqT K H p us := h.elim (fun e => .inl (sq_lst e)) fun e => .inr (sq_tup e)
/-- a fraction in lowest terms whose bottom divides 12 -/
structure F12 (f : Fr) : Prop where
  pos : 0 < f.2
  dv : f.2 ∣ 12
  low : f.2 ∣ f.1 → f.2 = 1
  bd : f.1.natAbs ≤ 1000
theorem F12.le {f : Fr} (h : F12 f) : f.2 ≤ 12 := Int.le_of_dvd (by decide) h.dv
theorem F12.ok {f : Fr} (h : F12 f) : FrOk f := ⟨h.pos, by have := h.le; omega⟩
def totT (am : List Int) (st : List Fr) (k : Nat) : Int := am.getD k 0 * (st.getD k (0, 1)).1 * (12 / (st.getD k (0, 1)).2)
def tot (am : List Int) (st : List Fr) : Int := ((List.range st.length).map (totT am st)).sum
def lowF (t b : Int) : Fr := (t / (Int.gcd t b : Nat), b / (Int.gcd t b : Nat))
theorem lowF_12 {t b : Int} (h : 0 < b) (d : b ∣ 12) (ht : t.natAbs ≤ 1000) : F12 (lowF t b) := by
  have g0 : 0 < (Int.gcd t b : Nat) := Nat.pos_of_ne_zero fun z => by
    have := Int.gcd_eq_zero_iff.mp z
    omega
  have gb : ((Int.gcd t b : Nat) : Int) ∣ b := Int.gcd_dvd_right ..
  have gt : ((Int.gcd t b : Nat) : Int) ∣ t := Int.gcd_dvd_left ..
  obtain ⟨x, ex⟩ := gb
  obtain ⟨y, ey⟩ := gt
  generalize hg : Int.gcd t b = g at *
  have g0' : (g : Int) ≠ 0 := by omega
  have e2 : (lowF t b).2 = x := by
    show b / (Int.gcd t b : Nat) = x
    rw [hg, ex]; exact Int.mul_ediv_cancel_left _ g0'
  have e1 : (lowF t b).1 = y := by
    show t / (Int.gcd t b : Nat) = y
    rw [hg]
    rw [ey]; exact Int.mul_ediv_cancel_left _ g0'
  have x0 : 0 < x := by
    rcases Int.lt_or_le 0 x with h1 | h1
    · exact h1
    · have := Int.mul_nonpos_of_nonneg_of_nonpos (show (0 : Int) ≤ g by omega) h1
      omega
  refine ⟨by rw [e2]; exact x0, ?_, fun hd => ?_, ?_⟩
  rotate_left 2
  · rw [e1]
    have : y.natAbs ≤ t.natAbs := by
      rw [ey, Int.natAbs_mul, Int.natAbs_natCast]
      exact Nat.le_mul_of_pos_left _ g0
    omega
  · rw [e2]
    exact Int.dvd_trans ⟨g, by rw [ex]; exact Int.mul_comm ..⟩ d
  · rw [e2, e1] at hd
    rw [e2]
    obtain ⟨z, ez⟩ := hd
    have : b ∣ t := ⟨z, by rw [ey, ez, ex, Int.mul_assoc]⟩
    have h2 : Int.gcd t b = b.natAbs := Nat.gcd_eq_right (Int.natAbs_dvd_natAbs.mpr this)
    have h3 : (g : Int) = b := by omega
    rw [h3] at ex
    have : b * x = b * 1 := by omega
    exact Int.eq_of_mul_eq_mul_left (by omega) this
theorem int_of {v : V} {ns : List Int} (h : v ∈ ns.map V.int) : ∃ z ∈ ns, v = .int z := by
  obtain ⟨z, hz, rfl⟩ := List.mem_map.mp h
  exact ⟨z, hz, rfl⟩
theorem len7 {a b c d e f g : V} : [a, b, c, d, e, f, g].length ≤ sizeLine := by
  rw [sizeLine_eq]
  exact (by decide : 7 ≤ 16777216)
/-- rows in a tuple -/
def RsV (H : Hp) (v : V) (rl : List Row) : Prop := ∃ p us, v = .ref p ∧ H p = some (.tup us) ∧ All2 (RV H) us rl
theorem RsV.tk {H H' : Hp} {v : V} {rl : List Row} (h : RsV H v rl) (s : TK H H') : RsV H' v rl := by
  obtain ⟨p, us, e, f, g⟩ := h
  exact ⟨p, us, e, s _ _ f, g.mono fun v x k => k.tk s⟩
def UsV (H : Hp) (v : V) (ul : List Unk) : Prop := ∃ p us, v = .ref p ∧ H p = some (.tup us) ∧ UVs H us ul
theorem UsV.tk {H H' : Hp} {v : V} {ul : List Unk} (h : UsV H v ul) (s : TK H H') : UsV H' v ul := by
  obtain ⟨p, us, e, f, g⟩ := h
  exact ⟨p, us, e, s _ _ f, g.tk s⟩
theorem UVs.at2 {H : Hp} {vs : List V} {as : List Unk} {i : Nat} {a : Unk} (h : UVs H vs as) (e : as[i]? = some a) : ∃ v, vs[i]? = some v ∧ UV H v a := by
  have l := h.len
  have hi : i < vs.length := by rw [l]; exact (List.getElem?_eq_some_iff.mp e).1
  obtain ⟨a', e', g⟩ := h.at_ (List.getElem?_eq_getElem hi)
  rw [e] at e'
  cases e'
  exact ⟨_, List.getElem?_eq_getElem hi, g⟩
section
variable {P : Program} {w : World} {K : PySem.W.Frag} {mg : Str → Option Value} {base : Heap} {aW aT : Addr} {es : Array DictEntry} {nn : Nat}
abbrev s_Lany : Stmt := topS 47
abbrev n_Lany : List Str := ["deal", "bound", "rest"]
theorem sc_Lany : FnScope n_Lany ["deal", "bound"] (defScope s_Lany) := ⟨rfl, rfl, rfl, by decide +kernel, rfl, by decide +kernel, by decide +kernel⟩
def spDraw : Sp := fun vs H Q _ => ∃ (h q : Addr) (n : Int), vs = [.ref h, .int n] ∧ HpAt H h q ∧ 0 < n ∧ n < 1073741824 ∧ ∀ d H', 0 ≤ d → d < n → HpAt H' h q → Kpt h q H H' → Q (.int d) H'
theorem ok_draw {f : Addr} {fd : FuncData} (F : Fun K "_law_any" "_law_any" s_Lany f fd) (T : Txt K mg w aW aT es nn) : FnOk P w K mg base CX0 1 f fd ["deal", "bound"] spDraw := by
  refine F.ok sc_Lany (fun vs H Q E h => ?_) (fun cdv A outer s H vs Q E hr h => ?_)
  · obtain ⟨h, q, n, rfl, _⟩ := h
    rfl
  · obtain ⟨h, q, n, rfl, ⟨cs0, st0, a0⟩, hn, hn2, k⟩ := h
    refine ⟨_, (pss_cut (ps_while PassesOwn.never (PW.pt (pw_and (pt_cmpR (op_neD hr.units) (pe_ix ix_list (pv 0) pe_int (fun _ _ => rfl)) (pe_lst pa_nil) (nomark _)) (pw_and1 (pt_cmpR op_eq (pe_ix ix_list (pe_ix ix_list (pv 0) pe_int (fun _ _ => rfl)) (pe_un un_neg pe_int) (fun _ _ => rfl)) pe_int (nomark _))))) (pss_one (ps_expr (pe_bm0 PySem.F.plainAttrs_list PySem.F.slot_list_pop PySem.F.type_list_pop mt_pop (pe_ix ix_list (pv 0) pe_int (fun _ _ => rfl))))))
      (pss_cons (ps_if (pt_cmpR (op_neD hr.units) (pe_ix ix_list (pv 0) pe_int (fun _ _ => rfl)) (pe_lst pa_nil) (nomark _)) (pss_cons (ps_set (i := 2) sc_Lany.nd rfl (.inl rfl) (pe_callTy call_int1 (by rfl) T.b_int (by decide +kernel) (pa_cons (pe_bm0 PySem.F.plainAttrs_list PySem.F.slot_list_pop PySem.F.type_list_pop mt_pop (pe_ix ix_list (pv 0) pe_int (fun _ _ => rfl))) pa_nil)))
        (pss_cons (ps_expr (pe_bm PySem.F.plainAttrs_list PySem.F.slot_list_append PySem.F.type_list_append mt_append (pe_ix ix_list (pv 0) pe_int (fun _ _ => rfl)) (pa_cons (pe_op op_fdiv (pv 2) (pv 1)) pa_nil)))
        (pss_one (ps_ret (pe_op op_mod (pv 2) (pv 1)))))) pss_nil)
      (pss_cons (ps_asg (pe_op op_mod (pe_callTy call_int1 (by rfl) T.b_int (by decide +kernel) (pa_cons (pe_op op_add (pe_op op_mul (pe_ix ix_list (pv 0) pe_int (fun _ _ => rfl)) pe_int) pe_int) pa_nil)) pe_int) (pg_sub (pv 0) pe_int set_list))
      (pss_one (ps_ret (pe_op op_mod (pe_callTy call_int1 (by rfl) T.b_int (by decide +kernel) (pa_cons (pe_op op_fdiv (pe_ix ix_list (pv 0) pe_int (fun _ _ => rfl)) pe_int) pa_nil)) (pv 1))))))), ?_⟩
    refine ⟨fun σ H' => ∃ cs st y, σ = [some (.ref h), some (.int n), y] ∧ HpL H' h q cs st ∧ Kpt h q H H', ?_, fun σ H1 hM => ?_⟩
    · refine ⟨fun m σ H' => ∃ cs st y, σ = [some (.ref h), some (.int n), y] ∧ HpL H' h q cs st ∧ Kpt h q H H' ∧ m = cs.length, ⟨_, cs0, st0, none, rfl, a0, Kpt.refl _ _ _, rfl⟩, fun m σ H1 hW => ?_⟩
      obtain ⟨cs, st, y, rfl, a, kp, rfl⟩ := hW
      refine ⟨_, rfl, h, _, 0, .ref q, rfl, rfl, sq_lst a.hh, rfl, Nat.zero_le _, fun p np => ?_⟩
      have sm : Same H1 (upd H1 p (.lst [])) := same_upd np
      have a2 := a.same sm
      refine ⟨_, _, .lst (sq_lst a2.hq) (dp_ints cs), .lst (sq_lst upd_same) .nil, shp_ints cs, shp_ints [], _, rfl, ?_⟩
      rcases List.eq_nil_or_concat cs with rfl | ⟨ds, c, rfl⟩
      · refine iteF ?_
        exact ⟨[], st, y, rfl, a2, kp.trans (.of_same sm)⟩
      · have e : PyData.eqv (.list ((ds.concat c).map PyData.int)) (.list []) = false := by
          rw [List.concat_eq_append, List.map_append, PyData.eqv]
          cases ds with
          | nil => rfl
          | cons d r => rfl
        rw [e]
        refine iteT ?_
        have el : (ds.concat c).map V.int = ds.map V.int ++ [.int c] := by rw [List.concat_eq_append, List.map_append]; rfl
        refine ⟨_, rfl, h, _, 0, .ref q, rfl, rfl, sq_lst a2.hh, rfl, _, rfl, q, _, -1, .int c, rfl, rfl, sq_lst a2.hq, (by rw [el]; exact atI_last _ _), rfl, _, rfl, ite2 (fun hz => ?_) (fun hz => ?_)⟩
        · refine ⟨fun σ' H' => ∃ m', m' < (ds.concat c).length ∧ _, fun _ _ z => z, ?_⟩
          refine ⟨_, rfl, h, _, 0, .ref q, rfl, rfl, sq_lst a2.hh, rfl, .inl ⟨rfl, _, sq_lst a2.hq⟩, q, _, .int c, rfl, rfl, a2.hq, ?_, ds.length, ?_, ds, st, y, rfl, ?_, ?_, rfl⟩
          · rw [el, List.length_append, List.length_singleton, Nat.add_sub_cancel, List.getElem?_append_right (Nat.le_refl _), Nat.sub_self]; rfl
          · rw [List.length_concat]; omega
          · rw [el, List.dropLast_concat]
            refine a2.put ds (fun x hx => a.nn x (by rw [List.concat_eq_append]; exact List.mem_append_left _ hx)) ?_
            have := a.ln; rw [List.length_concat] at this; omega
          · exact (kp.trans (.of_same sm)).trans .at_q
        · exact ⟨ds.concat c, st, y, rfl, a2, kp.trans (.of_same sm)⟩
    · obtain ⟨cs, st, y, rfl, a, kp⟩ := hM
      refine ⟨_, rfl, h, _, 0, .ref q, rfl, rfl, sq_lst a.hh, rfl, Nat.zero_le _, fun p np => ?_⟩
      have sm : Same H1 (upd H1 p (.lst [])) := same_upd np
      have a2 := a.same sm
      refine ⟨_, _, .lst (sq_lst a2.hq) (dp_ints cs), .lst (sq_lst upd_same) .nil, shp_ints cs, shp_ints [], _, rfl, ?_⟩
      have kp2 := kp.trans (.of_same (h := h) (q := q) sm)
      rcases List.eq_nil_or_concat cs with rfl | ⟨ds, c, rfl⟩
      · refine iteF ?_
        have b1 : (0 : Int) ≤ (st * 40693 + 71) % 2147483647 := Int.emod_nonneg _ (by decide)
        have b2 : (st * 40693 + 71) % 2147483647 < 2147483647 := Int.emod_lt_of_pos _ (by decide)
        refine ⟨_, rfl, h, _, 1, .int st, rfl, rfl, sq_lst a2.hh, rfl, _, _, rfl, rfl, .inr ⟨by decide, by decide⟩, _, _, rfl, rfl, .inl ⟨_, rfl, _, _, rfl, rfl, (by show (0 : Int) < 2147483647; decide), _, rfl, h, _, 1, 1, rfl, rfl, a2.hh, rfl, ?_⟩⟩
        have a3 : HpL (upd (upd H1 p (.lst [])) h (.lst [.ref q, .int ((st * 40693 + 71) % 2147483647)])) h q [] ((st * 40693 + 71) % 2147483647) :=
          ⟨a.ne, upd_same, by rw [upd_ne a.ne.symm]; exact a2.hq, a.nn, a.ln, b1, b2⟩
        refine ⟨_, rfl, h, _, 1, _, rfl, rfl, sq_lst a3.hh, rfl, _, _, rfl, rfl, ⟨by decide, by decide⟩, .inl ⟨_, rfl, _, rfl, _, _, rfl, rfl, hn, ?_⟩⟩
        exact k _ _ (Int.emod_nonneg _ (by omega)) (Int.emod_lt_of_pos _ hn) ⟨_, _, a3⟩ (kp2.trans .at_h)
      · have e : PyData.eqv (.list ((ds.concat c).map PyData.int)) (.list []) = false := by
          rw [List.concat_eq_append, List.map_append, PyData.eqv]
          cases ds with
          | nil => rfl
          | cons d r => rfl
        rw [e]
        refine iteT ?_
        have el : (ds.concat c).map V.int = ds.map V.int ++ [.int c] := by rw [List.concat_eq_append, List.map_append]; rfl
        have c0 : 0 ≤ c := a.nn c (by rw [List.concat_eq_append]; simp)
        have dl : ds.length + 1 ≤ 60 := by have := a.ln; rwa [List.length_concat] at this
        refine ⟨_, rfl, h, _, 0, .ref q, rfl, rfl, sq_lst a2.hh, rfl, .inl ⟨rfl, _, sq_lst a2.hq⟩, q, _, .int c, rfl, rfl, a2.hq, ?_, .inl ⟨_, rfl, ?_⟩⟩
        · rw [el, List.length_append, List.length_singleton, Nat.add_sub_cancel, List.getElem?_append_right (Nat.le_refl _), Nat.sub_self]; rfl
        · rw [el, List.dropLast_concat]
          have a3 := a2.put ds (fun x hx => a.nn x (by rw [List.concat_eq_append]; exact List.mem_append_left _ hx)) (by omega)
          refine ⟨_, rfl, h, _, 0, .ref q, rfl, rfl, sq_lst a3.hh, rfl, .inl ⟨rfl, _, sq_lst a3.hq⟩, _, rfl, _, rfl, _, _, rfl, rfl, ⟨hn, hn2⟩, q, _, _, rfl, rfl, a3.hq, ?_, ?_⟩
          · rw [List.length_map]; exact small1000 (by omega)
          · have a4 := a3.put (ds ++ [c / n]) (fun x hx => by
              rcases List.mem_append.mp hx with z | z
              · exact a3.nn x z
              · rw [List.mem_singleton.mp z]; exact Int.ediv_nonneg c0 (by omega)) (by rw [List.length_append]; exact dl)
            rw [List.map_append] at a4
            refine ⟨_, rfl, _, rfl, _, _, rfl, rfl, hn, ?_⟩
            exact k _ _ (Int.emod_nonneg _ (by omega)) (Int.emod_lt_of_pos _ hn) ⟨_, _, a4⟩ ((kp2.trans .at_q).trans .at_q)
abbrev s_Ldraw : Stmt := topS 46
abbrev n_Ldraw : List Str := ["script", "salt", "cell", "cells", "blend"]
theorem sc_Ldraw : FnScope n_Ldraw ["script", "salt"] (defScope s_Ldraw) := ⟨rfl, rfl, rfl, by decide +kernel, rfl, by decide +kernel, by decide +kernel⟩
def spHeap (K : PySem.W.Frag) : Sp := fun vs H Q _ => ∃ (a : Addr) (ns : List Int), vs = [.ref a, .int 257] ∧ SqL K H a (ns.map V.int) ∧ ns.length ≤ 63 ∧ ∀ H' h q, Same H H' → H h = none → H q = none → HpAt H' h q → Q (.ref h) H'
theorem ok_heap {f : Addr} {fd : FuncData} (F : Fun K "_law_draw" "_law_draw" s_Ldraw f fd) (T : Txt K mg w aW aT es nn) : FnOk P w K mg base CX0 1 f fd ["script", "salt"] (spHeap K) := by
  refine F.ok sc_Ldraw (fun vs H Q E h => ?_) (fun cdv A outer s H vs Q E hr h => ?_)
  · obtain ⟨a, ns, rfl, _⟩ := h
    rfl
  · obtain ⟨a, ns, rfl, hS, hlen, k⟩ := h
    refine ⟨_, (pss_cons (ps_setLc (i := 3) (own := [("cell", 2)]) rfl sc_Ldraw.nd rfl rfl (sw_true rfl rfl rfl (by decide +kernel)) (pi_list (pe_slice sl_list (pv 0) po_none (po_some pe_int))) (blkOk_by (N := n_Ldraw) (sc := defScope s_Ldraw) (by decide +kernel)) (fun _ _ _ _ _ => (pg_name (i := 2) sc_Ldraw.nd rfl (.inl rfl))) (fun _ _ _ _ _ => pts_nil) (fun _ _ _ _ _ => (pe_callB call_abs (by rfl) T.b_abs (by decide +kernel) (pa_cons (pe_callTy call_int1 (by rfl) T.b_int (by decide +kernel) (pa_cons (pv 2) pa_nil)) pa_nil))))
      (pss_cons (ps_set (i := 4) sc_Ldraw.nd rfl (.inl rfl) (pe_op op_add pe_int (pe_op op_mul pe_int (pv 1))))
      (pss_cons (ps_for PassesOwn.never rfl (pi_list (pv 3)) (pg_name (i := 2) sc_Ldraw.nd rfl (.inl rfl)) (pss_one (ps_set (i := 4) sc_Ldraw.nd rfl (.inl rfl) (pe_op op_mod (pe_callTy call_int1 (by rfl) T.b_int (by decide +kernel) (pa_cons (pe_op op_add (pe_op op_add (pe_op op_mul (pv 4) pe_int) (pe_op op_mod (pv 2) pe_int)) pe_int) pa_nil)) pe_int))))
      (pss_one (ps_ret (pe_lst (pa_cons (pe_revL (pe_lc (own := [("cell", 2)]) rfl sc_Ldraw.nd (pi_list (pv 3)) (blkOk_by (N := n_Ldraw) (sc := defScope s_Ldraw) (by decide +kernel)) (fun _ _ _ _ _ => (pg_name (i := 2) sc_Ldraw.nd rfl (.inl rfl))) (fun _ _ _ _ _ => (pts_one (pt_cmpR op_ge (pv 2) (pe_op op_pow pe_int pe_int) (nomark _)))) (fun _ _ _ _ _ => (pv 2)))) (pa_cons (pv 4) pa_nil)))))))), ?_⟩
    refine ⟨_, rfl, _, rfl, a, _, rfl, hS, fun p np => ?_⟩
    rw [cut48]
    have s1 : Same H (upd H p (.lst ((ns.take 48).map V.int))) := same_upd np
    refine ⟨p, rfl, ⟨_, sq_lst upd_same⟩, fun D nD => ?_⟩
    have nDH : H D = none := s1.free nD
    have hDp : p ≠ D := ne_of_none upd_same nD
    refine lc_list (K := K) (a := p) (xs := (ns.take 48).map V.int) (fun i H' => ∃ cs : List Int, H' D = some (.lst (cs.map V.int)) ∧ (∀ c ∈ cs, 0 ≤ c) ∧ cs.length = i ∧ H' p = some (.lst ((ns.take 48).map V.int)) ∧ Same H H')
      ⟨[], upd_same, by simp, rfl, by rw [upd_ne hDp]; exact upd_same, same_at s1 nDH⟩ (fun i H' _ ⟨_, _, _, _, e, _⟩ => sq_lst e) ?_ ?_
    · rintro i x H' hi ⟨cs, hD, c0, cl, hp, sm⟩
      obtain ⟨z, hz, rfl⟩ := get_int hi
      have hil : i < (ns.take 48).length := (List.getElem?_eq_some_iff.mp hz).1
      rw [List.length_take] at hil
      refine ⟨rfl, _, rfl, .inl ⟨_, rfl, _, rfl, cs.map V.int, hD, (by rw [List.length_map]; exact small1000 (by omega)), cs ++ [if z < 0 then -z else z], ?_, ?_, ?_, ?_, same_at sm nDH⟩⟩
      · rw [upd_same, List.map_append]; rfl
      · intro c hc
        rcases List.mem_append.mp hc with h | h
        · exact c0 c h
        · rw [List.mem_singleton.mp h]; split <;> omega
      · rw [List.length_append, cl]; rfl
      · rw [upd_ne hDp]; exact hp
    · rintro H2 ⟨cs, hD, c0, cl, hp, sm⟩
      have cl60 : cs.length ≤ 60 := by rw [cl, List.length_map, List.length_take]; omega
      -- the loop over the cells
      refine ⟨_, rfl, _, _, rfl, rfl, .inl ⟨by decide, by decide⟩, _, _, rfl, rfl, _, rfl, D, rfl, ⟨_, sq_lst hD⟩, for_list (K := K) (a := D) (xs := cs.map V.int) (fun i σ H' => ∃ (y : Option V) (st : Int), σ = [some (.ref a), some (.int 257), y, some (.ref D), some (.int st)] ∧ 0 ≤ st ∧ st < 2147483647 ∧ H' = H2)
        ⟨none, 7919 + 104729 * 257, rfl, by decide, by decide, rfl⟩ (fun i σ H' _ ⟨_, _, _, _, _, e⟩ => by rw [e]; exact sq_lst hD) ?_ ?_⟩
      · rintro i x σ H' hi ⟨y, st, rfl, h0, h1, rfl⟩
        obtain ⟨z, hz, rfl⟩ := get_int hi
        refine ⟨_, rfl, _, _, rfl, rfl, .inl ⟨by omega, by omega⟩, _, rfl, _, _, rfl, rfl, (by show (0 : Int) < 2147483549; decide), _, _, rfl, rfl, _, _, rfl, rfl, .inl ⟨_, rfl, _, _, rfl, rfl, (by show (0 : Int) < 2147483647; decide), ?_⟩⟩
        exact ⟨_, _, rfl, Int.emod_nonneg _ (by decide), Int.emod_lt_of_pos _ (by decide), rfl⟩
      · rintro σ H' ⟨y, st, rfl, h0, h1, rfl⟩
        refine ⟨_, rfl, D, rfl, ⟨_, sq_lst hD⟩, fun D2 nD2 => ?_⟩
        have nD2H : H D2 = none := sm.free nD2
        have hDD : D ≠ D2 := ne_of_none hD nD2
        refine lc_list (K := K) (a := D) (xs := cs.map V.int) (fun i H3 => ∃ ds : List Int, H3 D2 = some (.lst (ds.map V.int)) ∧ (∀ c ∈ ds, 0 ≤ c) ∧ ds.length ≤ i ∧ H3 D = some (.lst (cs.map V.int)) ∧ Same H H3)
          ⟨[], upd_same, by simp, Nat.le_refl _, by rw [upd_ne hDD]; exact hD, same_at sm nD2H⟩ (fun i H' _ ⟨_, _, _, _, e, _⟩ => sq_lst e) ?_ ?_
        · rintro i x H3 hi ⟨ds, hd, d0, dl, hc, sm3⟩
          obtain ⟨z, hz, rfl⟩ := get_int hi
          have hil : i < cs.length := (List.getElem?_eq_some_iff.mp hz).1
          have hz0 : 0 ≤ z := c0 z (List.mem_of_getElem? hz)
          refine ⟨rfl, _, rfl, _, _, rfl, rfl, ⟨by decide, by decide, by decide⟩, _, _, rfl, rfl, _, rfl, ite2 (fun _ => ?_) (fun _ => ?_)⟩
          · refine ⟨_, rfl, ds.map V.int, hd, (by rw [List.length_map]; exact small1000 (by omega)), ds ++ [z], ?_, ?_, ?_, ?_, same_at sm3 nD2H⟩
            · rw [upd_same, List.map_append]; rfl
            · intro c hc
              rcases List.mem_append.mp hc with h | h
              · exact d0 c h
              · rw [List.mem_singleton.mp h]; exact hz0
            · rw [List.length_append]; exact Nat.succ_le_succ dl
            · rw [upd_ne hDD]; exact hc
          · exact ⟨ds, hd, d0, by omega, hc, sm3⟩
        · rintro H3 ⟨ds, hd, d0, dl, hc, sm3⟩
          have dl60 : ds.length ≤ 60 := by rw [List.length_map] at dl; omega
          refine ⟨D2, _, rfl, sq_lst hd, fun q nq => ?_⟩
          refine ⟨_, rfl, (by show 2 ≤ sizeLine; decide), fun g ng => ?_⟩
          have s4 := same_at (o := .lst (ds.map V.int).reverse) sm3 (sm3.free nq)
          have s5 := same_at (o := .lst [.ref q, .int st]) s4 (s4.free ng)
          have hgq : g ≠ q := (ne_of_none upd_same ng).symm
          refine k _ g q s5 (s4.free ng) (sm3.free nq) ⟨ds.reverse, st, hgq, upd_same, ?_, ?_, ?_, h0, h1⟩
          · rw [upd_ne hgq.symm, upd_same, List.map_reverse]
          · intro c hc; exact d0 c (List.mem_reverse.mp hc)
          · rw [List.length_reverse]; exact dl60
abbrev s_Lof : Stmt := topS 48
abbrev n_Lof : List Str := ["deal", "some"]
theorem sc_Lof : FnScope n_Lof ["deal", "some"] (defScope s_Lof) := ⟨rfl, rfl, rfl, by decide +kernel, rfl, by decide +kernel, by decide +kernel⟩
def spPickL : Sp := fun vs H Q _ => ∃ (h q p : Addr) (xs : List V), vs = [.ref h, .ref p] ∧ HpAt H h q ∧ H p = some (.lst xs) ∧ p ≠ h ∧ p ≠ q ∧ xs ≠ [] ∧ xs.length ≤ 1000 ∧ ∀ v H', v ∈ xs → HpAt H' h q → Kpt h q H H' → Q v H'
theorem ok_pickL {f : Addr} {fd : FuncData} (F : Fun K "_law_of" "_law_of" s_Lof f fd) (T : Txt K mg w aW aT es nn) (c_Lany : Cal P w K mg base 1 "_law_any" spDraw []) : FnOk P w K mg base CX0 2 f fd ["deal", "some"] spPickL := by
  refine F.ok sc_Lof (fun vs H Q E h => ?_) (fun cdv A outer s H vs Q E hr h => ?_)
  · obtain ⟨h, q, p, xs, rfl, _⟩ := h
    rfl
  · obtain ⟨h, q, p, xs, rfl, a, hp, p1, p2, hl, hn, k⟩ := h
    refine ⟨_, (pss_one (ps_ret (pe_ix ix_list (pv 1) (pe_c c_Lany hr (by decide) (by rfl) (pa_cons (pv 0) (pa_cons (pe_callB call_len_seq (by rfl) T.b_len (by decide +kernel) (pa_cons (pv 1) pa_nil)) pa_nil))) (fun _ _ => rfl)))), ?_⟩
    have h1 : 0 < xs.length := List.length_pos_iff.mpr hl
    refine ⟨_, rfl, _, rfl, _, rfl, p, xs, rfl, .inl (sq_lst hp), h, q, (xs.length : Int), rfl, a, by omega, by omega, fun d H' d0 d1 a' kp => ?_⟩
    obtain ⟨j, rfl⟩ : ∃ j : Nat, d = (j : Int) := ⟨d.toNat, by omega⟩
    have hj : j < xs.length := by omega
    exact ⟨p, xs, (j : Int), xs[j], rfl, rfl, sq_lst (kp _ _ hp p1 p2), atI_nat (List.getElem?_eq_getElem hj), k _ _ (List.getElem_mem hj) a' kp⟩
abbrev s_Llow : Stmt := topS 49
abbrev n_Llow : List Str := ["top", "bottom", "one", "other"]
theorem sc_Llow : FnScope n_Llow ["top", "bottom"] (defScope s_Llow) := ⟨rfl, rfl, rfl, by decide +kernel, rfl, by decide +kernel, by decide +kernel⟩
def spLow : Sp := fun vs H Q _ => ∃ (t b : Int), vs = [.int t, .int b] ∧ 0 < b ∧ b ≤ 1000000 ∧ ∀ H' p, Same H H' → H' p = some (.tup [.int (lowF t b).1, .int (lowF t b).2]) → Q (.ref p) H'
theorem ok_low {f : Addr} {fd : FuncData} (F : Fun K "_law_low" "_law_low" s_Llow f fd) (T : Txt K mg w aW aT es nn) : FnOk P w K mg base CX0 1 f fd ["top", "bottom"] spLow := by
  refine F.ok sc_Llow (fun vs H Q E h => ?_) (fun cdv A outer s H vs Q E hr h => ?_)
  · obtain ⟨t, b, rfl, _⟩ := h
    rfl
  · obtain ⟨t, b, rfl, b0, b1, fin⟩ := h
    have g0 : 0 < (Int.gcd t b : Nat) := Nat.pos_of_ne_zero fun z => by
      have := Int.gcd_eq_zero_iff.mp z
      omega
    have gle : (Int.gcd t b : Nat) ≤ b := Int.le_of_dvd b0 (Int.gcd_dvd_right ..)
    refine ⟨_, (pss_cons (ps_par (i := 2) (j := 3) (by rfl) sc_Llow.nd rfl rfl (by decide) rfl rfl (pa_cons (pe_callB call_abs (by rfl) T.b_abs (by decide +kernel) (pa_cons (pv 0) pa_nil)) (pa_cons (pv 1) pa_nil)) (by rfl))
      (pss_cons (ps_while PassesOwn.never (pt_cmpR op_gt (pv 3) pe_int (nomark _)) (pss_one (ps_par (i := 2) (j := 3) (by rfl) sc_Llow.nd rfl rfl (by decide) rfl rfl (pa_cons (pv 3) (pa_cons (pe_op op_mod (pe_callTy call_int1 (by rfl) T.b_int (by decide +kernel) (pa_cons (pv 2) pa_nil)) (pv 3)) pa_nil)) (by rfl))))
      (pss_one (ps_ret (pe_tup (pa_cons (pe_op op_fdiv (pv 0) (pv 2)) (pa_cons (pe_op op_fdiv (pv 1) (pv 2)) pa_nil))))))), ?_⟩
    refine ⟨_, rfl, _, rfl, _, rfl, _, _, rfl, ?_⟩
    refine ⟨fun m σ H' => ∃ x y : Nat, σ = [some (.int t), some (.int b), some (.int (x : Nat)), some (.int (y : Nat))] ∧ Nat.gcd x y = Int.gcd t b ∧ m = y ∧ H' = H, ⟨_, t.natAbs, b.natAbs, ?_, rfl, rfl, rfl⟩, fun m σ H1 hW => ?_⟩
    · show [some (V.int t), some (V.int b), some (V.int (if t < 0 then -t else t)), some (V.int b)] = _
      rw [show (if t < 0 then -t else t) = ((t.natAbs : Nat) : Int) by split <;> omega, show ((b.natAbs : Nat) : Int) = b by omega]
    · obtain ⟨x, y, rfl, hg, em, rfl⟩ := hW
      refine ⟨_, rfl, _, _, rfl, rfl, _, rfl, ite2 (fun h => ?_) (fun h => ?_)⟩
      · have h : (0 : Int) < (y : Int) := of_decide_eq_true h
        refine ⟨fun σ' H' => ∃ m', m' < m ∧ _, fun _ _ z => z, ?_⟩
        refine ⟨_, rfl, _, rfl, .inl ⟨_, rfl, _, rfl, _, _, rfl, rfl, h, _, _, rfl, x % y, ?_, y, x % y, rfl, ?_, rfl, rfl⟩⟩
        · rw [em]; exact Nat.mod_lt _ (by omega)
        · rw [← hg, Nat.gcd_comm y, ← Nat.gcd_rec, Nat.gcd_comm]
      · have h : ¬ (0 : Int) < (y : Int) := fun z => h (decide_eq_true z)
        obtain rfl : y = 0 := by omega
        rw [Nat.gcd_zero_right] at hg
        subst hg
        exact ⟨_, rfl, _, rfl, _, _, rfl, rfl, ⟨by omega, by omega⟩, _, rfl, _, rfl, _, _, rfl, rfl, ⟨by omega, by omega⟩, len2, fun p np => fin _ p (same_upd np) upd_same⟩
end
end M57

namespace M57
open PySem PySem.Spec PyProof.Rows L2 SX Own Gd
open C8 (Cal pe_c pe_gc pe_mk Mak pss_cut)
/-! ### sums of products, places -/
def dot : List Int → List Int → Int
  | a :: as, b :: bs => a * b + dot as bs
  | _, _ => 0
theorem dot_take : ∀ {a x : List Int} {i : Nat} {c y : Int}, a[i]? = some c → x[i]? = some y → dot (a.take (i + 1)) (x.take (i + 1)) = dot (a.take i) (x.take i) + c * y
  | a :: as, b :: bs, 0, c, y, h1, h2 => by
    simp only [List.getElem?_cons_zero, Option.some.injEq] at h1 h2
    subst h1 h2
    simp [dot]
  | a :: as, b :: bs, i + 1, c, y, h1, h2 => by
    simp only [List.getElem?_cons_succ] at h1 h2
    have := dot_take h1 h2
    simp only [List.take_succ_cons, dot, this]
    omega
  | [], _, _, _, _, h1, _ => by simp at h1
  | _ :: _, [], _, _, _, _, h2 => by simp at h2
def Sm (n : Nat) (a : List Int) : Prop := ∀ c ∈ a, c.natAbs ≤ n
theorem Sm.at_ {n : Nat} {a : List Int} (h : Sm n a) {i : Nat} {c : Int} (e : a[i]? = some c) : c.natAbs ≤ n := h c (List.mem_of_getElem? e)
def nzi (am : List Int) (i : Nat) : List Nat := (List.range i).filter fun k => decide (am.getD k 0 ≠ 0)
def nzp (am : List Int) : List Int := (nzi am am.length).map Int.ofNat
theorem nzi_succ {am : List Int} {i : Nat} : nzi am (i + 1) = if am.getD i 0 ≠ 0 then nzi am i ++ [i] else nzi am i := by
  unfold nzi
  rw [List.range_succ, List.filter_append]
  by_cases h : am.getD i 0 = 0
  · rw [if_neg (fun z => z h)]
    simp only [List.filter_cons, h, ne_eq, not_true_eq_false, decide_false, List.filter_nil, List.append_nil, if_false, Bool.false_eq_true]
  · rw [if_pos h]
    simp only [List.filter_cons, ne_eq, h, not_false_eq_true, decide_true, List.filter_nil, if_true]
theorem nzi_len (am : List Int) (i : Nat) : (nzi am i).length ≤ i := Nat.le_trans (List.length_filter_le ..) (by rw [List.length_range]; exact Nat.le_refl _)
section
variable {P : Program} {w : World} {K : PySem.W.Frag} {mg : Str → Option Value} {base : Heap} {aW aT : Addr} {es : Array DictEntry} {nn : Nat}
abbrev s_fraction_of : Stmt := topS 7
abbrev n_fraction_of : List Str := ["top", "bottom", "shared"]
theorem sc_fraction_of : FnScope n_fraction_of ["top", "bottom"] (defScope s_fraction_of) := ⟨rfl, rfl, rfl, by decide +kernel, rfl, by decide +kernel, by decide +kernel⟩
def spFrac : Sp := fun vs H Q _ => ∃ (t b : Int), vs = [.int t, .int b] ∧ 0 < b ∧ b ≤ 1000000 ∧ ∀ H' p, Same H H' → H' p = some (.tup [.int (lowF t b).1, .int (lowF t b).2]) → Q (.ref p) H'
theorem ok_fraction_of {f : Addr} {fd : FuncData} (F : Fun K "fraction_of" "fraction_of" s_fraction_of f fd) (T : Txt K mg w aW aT es nn) : FnOk P w K mg base CX0 1 f fd ["top", "bottom"] spFrac := by
  refine F.ok sc_fraction_of (fun vs H Q E h => ?_) (fun cdv A outer s H vs Q E hr h => ?_)
  · obtain ⟨t, b, rfl, _⟩ := h
    rfl
  · obtain ⟨t, b, rfl, b0, b1, fin⟩ := h
    have gb : Nat.gcd t.natAbs b.natAbs ≤ b.natAbs := Nat.gcd_le_right _ (by omega)
    have gp : 0 < Nat.gcd t.natAbs b.natAbs := Nat.gcd_pos_of_pos_right _ (by omega)
    have cx : (0 : Int) < ((Nat.gcd t.natAbs b.natAbs : Nat) : Int) ∧ ((Nat.gcd t.natAbs b.natAbs : Nat) : Int) < 1073741824 := ⟨by omega, by omega⟩
    refine ⟨_, (pss_cons (ps_if (pt_cmpR op_eq (pv 1) pe_int (nomark _)) (pss_one ps_dead) pss_nil)
      (pss_cons (ps_set (i := 2) sc_fraction_of.nd rfl (.inl rfl) (pe_callBfun cr_gcd (by rfl) T.g_gcd (pa_cons (pv 0) (pa_cons (pv 1) pa_nil))))
      (pss_cons (ps_if (pt_cmpR op_lt (pv 1) pe_int (nomark _)) (pss_one (ps_set (i := 2) sc_fraction_of.nd rfl (.inl rfl) (pe_un un_neg (pv 2)))) pss_nil)
      (pss_one (ps_ret (pe_tup (pa_cons (pe_op op_fdiv (pv 0) (pv 2)) (pa_cons (pe_op op_fdiv (pv 1) (pv 2)) pa_nil)))))))), ?_⟩
    refine ⟨_, rfl, rfl, _, rfl, ite2 (fun h => absurd (show b = 0 by simpa using h) (by omega)) (fun _ => ?_)⟩
    refine ⟨_, rfl, _, rfl, t, b, rfl, _, rfl, _, _, rfl, rfl, _, rfl, ite2 (fun h => absurd (show b < 0 from of_decide_eq_true h) (by omega)) (fun _ => ?_)⟩
    exact ⟨_, rfl, _, rfl, _, _, rfl, rfl, cx, _, rfl, _, rfl, _, _, rfl, rfl, cx, len2, fun p np => fin _ p (same_upd np) upd_same⟩
abbrev s_is_less : Stmt := topS 8
abbrev n_is_less : List Str := ["one", "other"]
theorem sc_is_less : FnScope n_is_less ["one", "other"] (defScope s_is_less) := ⟨rfl, rfl, rfl, by decide +kernel, rfl, by decide +kernel, by decide +kernel⟩
def spLess : Sp := fun vs H Q _ => ∃ (u v : V) (f g : Fr), vs = [u, v] ∧ FV H u f ∧ FV H v g ∧ f.1.natAbs ≤ 1000000 ∧ f.2.natAbs ≤ 1000000 ∧ g.1.natAbs ≤ 1000000 ∧ g.2.natAbs ≤ 1000000 ∧ Q (.bl (decide (f.1 * g.2 < g.1 * f.2))) H
theorem ok_is_less {f : Addr} {fd : FuncData} (F : Fun K "is_less" "is_less" s_is_less f fd) (T : Txt K mg w aW aT es nn) : FnOk P w K mg base CX0 1 f fd ["one", "other"] spLess := by
  refine F.ok sc_is_less (fun vs H Q E h => ?_) (fun cdv A outer s H vs Q E hr h => ?_)
  · obtain ⟨u, v, f, g, rfl, _⟩ := h
    rfl
  · obtain ⟨u, v, f, g, rfl, ⟨p, rfl, hp⟩, ⟨q, rfl, hq⟩, b1, b2, b3, b4, fin⟩ := h
    refine ⟨_, (pss_one (ps_ret (pe_cmpR op_lt (pe_op op_mul (pe_ix ix_tup (pv 0) pe_int (fun _ _ => rfl)) (pe_ix ix_tup (pv 1) pe_int (fun _ _ => rfl))) (pe_op op_mul (pe_ix ix_tup (pv 1) pe_int (fun _ _ => rfl)) (pe_ix ix_tup (pv 0) pe_int (fun _ _ => rfl))) (nomark _)))), ?_⟩
    refine ⟨_, rfl, p, _, 0, _, rfl, rfl, sq_tup hp, rfl, _, rfl, q, _, 1, _, rfl, rfl, sq_tup hq, rfl, _, _, rfl, rfl, .inl ⟨by omega, by omega⟩, ?_⟩
    exact ⟨_, rfl, q, _, 0, _, rfl, rfl, sq_tup hq, rfl, _, rfl, p, _, 1, _, rfl, rfl, sq_tup hp, rfl, _, _, rfl, rfl, .inl ⟨by omega, by omega⟩, _, _, rfl, rfl, fin⟩
abbrev s_total_of : Stmt := topS 10
abbrev n_total_of : List Str := ["coefficients", "integers", "total", "coefficient", "integer"]
theorem sc_total_of : FnScope n_total_of ["coefficients", "integers"] (defScope s_total_of) := ⟨rfl, rfl, rfl, by decide +kernel, rfl, by decide +kernel, by decide +kernel⟩
def spTotal : Sp := fun vs H Q _ => ∃ (u v : V) (a x : List Int), vs = [u, v] ∧ LV H u a ∧ LV H v x ∧ x.length = a.length ∧ Sm 1000 a ∧ ∀ H', Same H H' → Q (.int (dot a x)) H'
theorem ok_total_of {f : Addr} {fd : FuncData} (F : Fun K "total_of" "total_of" s_total_of f fd) (T : Txt K mg w aW aT es nn) : FnOk P w K mg base CX0 1 f fd ["coefficients", "integers"] spTotal := by
  refine F.ok sc_total_of (fun vs H Q E h => ?_) (fun cdv A outer s H vs Q E hr h => ?_)
  · obtain ⟨v, u, a, x, rfl, _⟩ := h
    rfl
  · obtain ⟨v, u, a, x, rfl, ⟨p, rfl, hp⟩, ⟨p2, rfl, hp2⟩, ln, sa, q⟩ := h
    refine ⟨_, (pss_cons (ps_set (i := 2) sc_total_of.nd rfl (.inl rfl) pe_int)
      (pss_cons (ps_for PassesOwn.never rfl (RZ.pi_zipA (by rfl) T.b_zip (pa_cons (pv 0) (pa_cons (pv 1) pa_nil))) (pg_tup rfl (pgs_cons (pg_name (i := 3) sc_total_of.nd rfl (.inl rfl)) (pgs_cons (pg_name (i := 4) sc_total_of.nd rfl (.inl rfl)) pgs_nil))) (pss_one (ps_if (pt_cmpR op_ne (pv 3) pe_int (nomark _)) (pss_one (ps_aug (i := 2) sc_total_of.nd rfl (.inl rfl) (pe_op op_mul (pv 3) (pv 4)) ip_add)) pss_nil)))
      (pss_one (ps_ret (pv 2))))), ?_⟩
    refine ⟨_, rfl, _, rfl, p, p2, _, _, rfl, .inr ⟨sq_tup hp, sq_tup hp2, RZ.for_zipT (K := K) (a := p) (b := p2) (xs := a.map V.int) (ys := x.map V.int) (by rw [List.length_map, List.length_map, ln])
      (fun i σ H' => ∃ (y3 y4 : Option V), σ = [some (.ref p), some (.ref p2), some (.int (dot (a.take i) (x.take i))), y3, y4] ∧ Same H H')
      ⟨none, none, rfl, Same.refl _⟩ (fun i σ H' h => ?_) (fun i c y T σ H' hc hy h nT => ?_) (fun σ H' h => ?_)⟩⟩
    · obtain ⟨y3, y4, rfl, sm⟩ := h
      exact ⟨sq_tup (sm _ _ hp), sq_tup (sm _ _ hp2)⟩
    · obtain ⟨y3, y4, rfl, sm⟩ := h
      obtain ⟨c, hc', rfl⟩ := at_map hc
      obtain ⟨y, hy', rfl⟩ := at_map hy
      have st := dot_take hc' hy'
      have sT : Same H (upd H' T (.tup [.int c, .int y])) := same_at sm (sm.free nT)
      refine ⟨T, _, rfl, sq_tup upd_same, rfl, _, _, rfl, _, _, rfl, rfl, ?_⟩
      refine ⟨_, rfl, rfl, _, rfl, ite2 (fun h0 => ?_) (fun h0 => ?_)⟩
      · have sc := sa.at_ hc'
        exact ⟨_, rfl, _, rfl, _, rfl, _, _, rfl, rfl, .inl ⟨by omega, by omega⟩, _, _, rfl, rfl, _, _, by rw [st]; rfl, sT⟩
      · have h0 : c = 0 := by simpa using h0
        exact ⟨_, _, by rw [st, h0, Int.zero_mul, Int.add_zero]; rfl, sT⟩
    · obtain ⟨y3, y4, rfl, sm⟩ := h
      have e1 : a.take (a.map V.int).length = a := List.take_of_length_le (by rw [List.length_map]; exact Nat.le_refl _)
      have e2 : x.take (a.map V.int).length = x := List.take_of_length_le (by rw [List.length_map]; omega)
      refine ⟨_, rfl, ?_⟩
      rw [e1, e2]
      exact q _ sm
abbrev s_worth : Stmt := topS 38
abbrev n_worth : List Str := ["goal", "point"]
theorem sc_worth : FnScope n_worth ["goal", "point"] (defScope s_worth) := ⟨rfl, rfl, rfl, by decide +kernel, rfl, by decide +kernel, by decide +kernel⟩
theorem ok_worth {f : Addr} {fd : FuncData} (F : Fun K "worth" "worth" s_worth f fd) (T : Txt K mg w aW aT es nn) (c_total_of : Cal P w K mg base 1 "total_of" spTotal []) : FnOk P w K mg base CX0 2 f fd ["goal", "point"] spTotal := by
  refine F.ok sc_worth (fun vs H Q E h => ?_) (fun cdv A outer s H vs Q E hr h => ?_)
  · obtain ⟨v, u, a, x, rfl, _⟩ := h
    rfl
  · obtain ⟨v, u, a, x, rfl, l1, l2, ln, sa, q⟩ := h
    refine ⟨_, (pss_one (ps_ret (pe_c c_total_of hr (by decide) (by rfl) (pa_cons (pv 0) (pa_cons (pv 1) pa_nil))))), ?_⟩
    exact ⟨_, rfl, _, rfl, v, u, a, x, rfl, l1, l2, ln, sa, q⟩
abbrev s_named_by : Stmt := topS 26
abbrev n_named_by : List Str := ["wish", "at", "item", "job"]
theorem sc_named_by : FnScope n_named_by ["wish"] (defScope s_named_by) := ⟨rfl, rfl, rfl, by decide +kernel, rfl, by decide +kernel, by decide +kernel⟩
def spNamed : Sp := fun vs H Q _ => ∃ (v : V) (r : Row), vs = [v] ∧ RV H v r ∧ r.am.length ≤ 100 ∧ ∀ H' p, Same H H' → H' p = some (tI (nzp r.am)) → Q (.ref p) H'
theorem ok_named_by {f : Addr} {fd : FuncData} (F : Fun K "named_by" "named_by" s_named_by f fd) (T : Txt K mg w aW aT es nn) : FnOk P w K mg base CX0 1 f fd ["wish"] spNamed := by
  refine F.ok sc_named_by (fun vs H Q E h => ?_) (fun cdv A outer s H vs Q E hr h => ?_)
  · obtain ⟨v, r, rfl, _⟩ := h
    rfl
  · obtain ⟨v, r, rfl, ⟨p, qa, rfl, hp, hqa⟩, la, fin⟩ := h
    refine ⟨_, (pss_cons (ps_if (pt_cmpR op_eq (pe_ix ix_tup (pv 0) pe_int (fun _ _ => rfl)) pe_str (nomark _)) (pss_one (ps_ret (pe_callTy call_tuple_of (by rfl) T.b_tuple (by decide +kernel) (pa_cons (pe_lc (own := [("at", 1), ("item", 2)]) (g := gTup K 2 (gCons (gName 1) (gCons (gName 2) gNil))) rfl sc_named_by.nd (pi_enT (by rfl) T.b_enumerate (pa_cons (pe_ix ix_tup (pv 0) pe_int (fun _ _ => rfl)) pa_nil)) (blkOk_by (N := n_named_by) (sc := defScope s_named_by) (by decide +kernel)) (fun _ _ _ _ _ => (pg_tup rfl (pgs_cons (pg_name (i := 1) sc_named_by.nd rfl (.inl rfl)) (pgs_cons (pg_name (i := 2) sc_named_by.nd rfl (.inl rfl)) pgs_nil)))) (fun _ _ _ _ _ => (pts_one (pt_cmpR op_ne (pv 2) pe_int (nomark _)))) (fun _ _ _ _ _ => (pv 1))) pa_nil)))) pss_nil)
      (pss_cons ps_dead (pss_cons ps_dead (pss_one ps_dead)))), ?_⟩
    refine ⟨_, rfl, p, _, 0, _, rfl, rfl, sq_tup hp, rfl, rfl, _, rfl, iteT ?_⟩
    refine ⟨_, rfl, p, _, 1, _, rfl, rfl, sq_tup hp, rfl, qa, _, rfl, sq_tup hqa, fun D nD => ?_⟩
    refine lc_it walk_enT (fun i H' => H' D = some (.lst (((nzi r.am i).map Int.ofNat).map V.int)) ∧ Same H H') ⟨upd_same, same_upd nD⟩ (fun i H' _ h => sq_tup (h.2 _ _ hqa)) ?_ ?_
    · rintro i x1 H1 H2 hi ⟨hD, sm⟩ ⟨T', k1, w1, rfl, nT, rfl, hk, hw⟩
      cases hk
      obtain ⟨c, hc, rfl⟩ := at_map hw
      have hc0 : r.am.getD i 0 = c := by rw [List.getD_eq_getElem?_getD, hc]; rfl
      have li : i < r.am.length := (List.getElem?_eq_some_iff.mp hc).1
      have sT := same_at (o := .tup [.int (i : Nat), .int c]) sm (sm.free nT)
      have hDT : upd H1 T' (.tup [.int (i : Nat), .int c]) D = some _ := same_upd nT _ _ hD
      refine ⟨T', _, rfl, sq_tup upd_same, rfl, _, _, rfl, _, _, rfl, rfl, rfl, ?_⟩
      refine ⟨_, rfl, rfl, _, rfl, ite2 (fun h0 => ?_) (fun h0 => ?_)⟩
      · have h0 : c ≠ 0 := fun z => by rw [z] at h0; simp at h0
        have ln := nzi_len r.am i
        refine ⟨_, rfl, _, hDT, (by rw [List.length_map, List.length_map]; exact small1000 (by omega)), ?_, same_at sT nD⟩
        rw [upd_same, nzi_succ, hc0, if_pos h0, List.map_append, List.map_append]; rfl
      · have h0 : c = 0 := by simpa using h0
        refine ⟨?_, sT⟩
        rw [hDT, nzi_succ, hc0, if_neg (by simp [h0])]
    · rintro H2 ⟨hD, sm⟩
      rw [List.length_map] at hD
      refine ⟨D, _, rfl, .inl ⟨sq_lst hD, fun l nl => fin _ l (sm.trans (same_upd nl)) upd_same⟩⟩
end
end M57

namespace M57
open PySem PySem.Spec PyProof.Rows L2 SX Own Gd
open C8 (Cal pe_c pe_gc pe_mk Mak pss_cut)
/-! ### rounded at a threshold -/
def rdF (th : Fr) (x : Fr × Int) : Int := x.2 * (if (x.2 * x.1.1 - x.2 * x.1.1 / x.1.2 * x.1.2) * th.2 < th.1 * x.1.2 then x.2 * x.1.1 / x.1.2 else x.2 * x.1.1 / x.1.2 + 1)
theorem div_bd' {t b : Int} (h : t.natAbs ≤ 1000) (_ : 0 < b) : (t / b).natAbs ≤ 1000 := Nat.le_trans (Int.natAbs_ediv_le_natAbs t b) h
def rnd (st : List Fr) (ts : List Int) (th : Fr) : List Int := (st.zip ts).map (rdF th)
/-- each 1 or -1 -/
def Pm (ts : List Int) : Prop := ∀ t ∈ ts, t = 1 ∨ t = -1
theorem zip_at {α β : Type} {a : List α} {b : List β} {i : Nat} {x : α} {y : β} (h1 : a[i]? = some x) (h2 : b[i]? = some y) : (a.zip b)[i]? = some (x, y) := List.getElem?_zip_eq_some.mpr ⟨h1, h2⟩
theorem rnd_len {st : List Fr} {ts : List Int} {th : Fr} (h : ts.length = st.length) : (rnd st ts th).length = st.length := by unfold rnd; rw [List.length_map, List.length_zip, h, Nat.min_self]
section
variable {P : Program} {w : World} {K : PySem.W.Frag} {mg : Str → Option Value} {base : Heap} {aW aT : Addr} {es : Array DictEntry} {nn : Nat}
abbrev s_rounded_at : Stmt := topS 42
abbrev n_rounded_at : List Str := ["start", "turns", "threshold", "point", "top", "bottom", "turn", "down", "excess"]
theorem sc_rounded_at : FnScope n_rounded_at ["start", "turns", "threshold"] (defScope s_rounded_at) := ⟨rfl, rfl, rfl, by decide +kernel, rfl, by decide +kernel, by decide +kernel⟩
def spRat : Sp := fun vs H Q _ => ∃ (sv tv hv : V) (st : List Fr) (ts : List Int) (th : Fr), vs = [sv, tv, hv] ∧ SV H sv st ∧ LV H tv ts ∧ FV H hv th ∧ ts.length = st.length ∧ st.length ≤ 100 ∧ (∀ f ∈ st, F12 f) ∧ Pm ts ∧ th.1.natAbs ≤ 1000000 ∧ th.2.natAbs ≤ 1000000 ∧
  ∀ H' p, Same H H' → H' p = some (tI (rnd st ts th)) → Q (.ref p) H'
theorem ok_rounded_at {f : Addr} {fd : FuncData} (F : Fun K "rounded_at" "rounded_at" s_rounded_at f fd) (T : Txt K mg w aW aT es nn) (c_is_less : Cal P w K mg base 1 "is_less" spLess []) : FnOk P w K mg base CX0 2 f fd ["start", "turns", "threshold"] spRat := by
  refine F.ok sc_rounded_at (fun vs H Q E h => ?_) (fun cdv A outer s H vs Q E hr h => ?_)
  · obtain ⟨sv, tv, hv, st, ts, th, rfl, _⟩ := h
    rfl
  · obtain ⟨sv, tv, hv, st, ts, th, rfl, ⟨ps, fs, rfl, hps, fv⟩, ⟨pt, rfl, hpt⟩, ⟨ph, rfl, hph⟩, lts, l100, f12, pm, t1, t2, fin⟩ := h
    have lf := fv.len
    refine ⟨_, (pss_cons (ps_set (i := 3) sc_rounded_at.nd rfl (.inl rfl) (pe_lst pa_nil))
      (pss_cons (ps_for PassesOwn.never rfl (RZ.pi_zipA (by rfl) T.b_zip (pa_cons (pv 0) (pa_cons (pv 1) pa_nil))) (pg_tup rfl (pgs_cons (pg_tup rfl (pgs_cons (pg_name (i := 4) sc_rounded_at.nd rfl (.inl rfl)) (pgs_cons (pg_name (i := 5) sc_rounded_at.nd rfl (.inl rfl)) pgs_nil))) (pgs_cons (pg_name (i := 6) sc_rounded_at.nd rfl (.inl rfl)) pgs_nil))) (pss_cons (ps_set (i := 7) sc_rounded_at.nd rfl (.inl rfl) (pe_op op_fdiv (pe_op op_mul (pv 6) (pv 4)) (pv 5)))
        (pss_cons (ps_set (i := 8) sc_rounded_at.nd rfl (.inl rfl) (pe_tup (pa_cons (pe_op op_sub (pe_op op_mul (pv 6) (pv 4)) (pe_op op_mul (pv 7) (pv 5))) (pa_cons (pv 5) pa_nil))))
        (pss_one (ps_expr (pe_bm PySem.F.plainAttrs_list PySem.F.slot_list_append PySem.F.type_list_append mt_append (pv 3) (pa_cons (pe_op op_mul (pv 6) (pe_ifExp (pt_val (pe_c c_is_less hr (by decide) (by rfl) (pa_cons (pv 8) (pa_cons (pv 2) pa_nil)))) (pv 7) (pe_op op_add (pv 7) pe_int))) pa_nil)))))))
      (pss_one (ps_ret (pe_callTy call_tuple_of (by rfl) T.b_tuple (by decide +kernel) (pa_cons (pv 3) pa_nil)))))), ?_⟩
    refine ⟨nil_ok, fun l nl => ?_⟩
    have k1 := same_upd (o := .lst []) nl
    have el : upd H l (.lst []) l = some (.lst []) := upd_same
    generalize upd H l (.lst []) = H1 at *
    refine ⟨_, rfl, _, rfl, ps, pt, _, _, rfl, .inr ⟨sq_tup (k1 _ _ hps), sq_tup (k1 _ _ hpt), RZ.for_zipT (K := K) (a := ps) (b := pt) (xs := fs) (ys := ts.map V.int) (by rw [List.length_map]; omega)
      (fun i σ H' => ∃ y4 y5 y6 y7 y8, σ = [some (.ref ps), some (.ref pt), some (.ref ph), some (.ref l), y4, y5, y6, y7, y8] ∧ Same H H' ∧ H' l = some (tL (((st.zip ts).take i).map (rdF th))))
      ⟨none, none, none, none, none, rfl, k1, el⟩ (fun i σ H' h => ?_) (fun i v1 v2 T' σ H' h1 h2 h nT => ?_) (fun σ H' h => ?_)⟩⟩
    · obtain ⟨y4, y5, y6, y7, y8, rfl, sm, em⟩ := h
      exact ⟨sq_tup (sm _ _ hps), sq_tup (sm _ _ hpt)⟩
    · obtain ⟨y4, y5, y6, y7, y8, rfl, sm, em⟩ := h
      obtain ⟨fr, hfr, pf, rfl, hpf⟩ := fv.at_ h1
      obtain ⟨t, ht, rfl⟩ := at_map h2
      have li : i < st.length := (List.getElem?_eq_some_iff.mp hfr).1
      have ff := f12 fr (List.mem_of_getElem? hfr)
      have tt := pm t (List.mem_of_getElem? ht)
      have tk1 := take_one (zip_at hfr ht)
      have lm : ((st.zip ts).take i).length ≤ 100 := by rw [List.length_take, List.length_zip]; omega
      have fle := ff.le
      have fbd := ff.bd
      have fpos := ff.pos
      have tb : (t * fr.1).natAbs ≤ 1000 := by rcases tt with rfl | rfl <;> omega
      have dd := div_bd' tb fpos
      have sT := sm.trans (same_upd (o := .tup [.ref pf, .int t]) nT)
      have eT : upd H' T' (.tup [.ref pf, .int t]) T' = some (.tup [.ref pf, .int t]) := upd_same
      have em := same_upd (o := .tup [.ref pf, .int t]) nT _ _ em
      generalize upd H' T' (.tup [.ref pf, .int t]) = H3 at *
      refine ⟨T', _, rfl, sq_tup eT, rfl, _, _, rfl, pf, _, rfl, sq_tup (sT _ _ hpf), rfl, _, _, rfl, _, _, rfl, rfl, _, _, rfl, rfl, ?_⟩
      refine ⟨_, rfl, _, rfl, _, _, rfl, rfl, .inl ⟨by omega, by omega⟩, _, rfl, _, _, rfl, rfl, ⟨fpos, by omega⟩, ?_⟩
      refine ⟨_, rfl, _, rfl, _, _, rfl, rfl, .inl ⟨by omega, by omega⟩, _, rfl, _, rfl, _, _, rfl, rfl, .inr ⟨by omega, by omega⟩, _, _, rfl, rfl, _, rfl, len2, fun q nq => ?_⟩
      have sq := sT.trans (same_upd (o := .tup [.int (t * fr.1 - t * fr.1 / fr.2 * fr.2), .int fr.2]) nq)
      have eq : upd H3 q (.tup [.int (t * fr.1 - t * fr.1 / fr.2 * fr.2), .int fr.2]) q = some (.tup [.int (t * fr.1 - t * fr.1 / fr.2 * fr.2), .int fr.2]) := upd_same
      have em := same_upd (o := .tup [.int (t * fr.1 - t * fr.1 / fr.2 * fr.2), .int fr.2]) nq _ _ em
      generalize upd H3 q (.tup [.int (t * fr.1 - t * fr.1 / fr.2 * fr.2), .int fr.2]) = H4 at *
      have ex : t * fr.1 - t * fr.1 / fr.2 * fr.2 = t * fr.1 % fr.2 := by
        have := Int.emod_add_mul_ediv (t * fr.1) fr.2
        have c2 := Int.mul_comm fr.2 (t * fr.1 / fr.2)
        omega
      have e0 := Int.emod_nonneg (t * fr.1) (show fr.2 ≠ 0 by omega)
      have e1 := Int.emod_lt_of_pos (t * fr.1) fpos
      refine ⟨_, rfl, .inl ⟨rfl, _, sq_lst em⟩, _, rfl, _, rfl, _, rfl, .ref q, .ref ph, (t * fr.1 - t * fr.1 / fr.2 * fr.2, fr.2), th, rfl, ⟨q, rfl, eq⟩, ⟨ph, rfl, sq _ _ hph⟩, by rw [ex]; omega, by omega, t1, t2, _, rfl, ite2 (fun c => ?_) (fun c => ?_)⟩
      · have c : (t * fr.1 - t * fr.1 / fr.2 * fr.2) * th.2 < th.1 * fr.2 := of_decide_eq_true c
        refine ⟨_, rfl, _, _, rfl, rfl, .inl ⟨by omega, by omega⟩, l, _, _, rfl, rfl, em, small1000 (by rw [List.length_map, List.length_map]; omega), _, _, _, _, _, rfl, same_at sq nl, ?_⟩
        rw [upd_same, tk1, List.map_append]
        unfold tL
        rw [List.map_append]
        simp only [rdF, List.map_cons, List.map_nil, if_pos c]
      · have c : ¬ (t * fr.1 - t * fr.1 / fr.2 * fr.2) * th.2 < th.1 * fr.2 := fun z => c (decide_eq_true z)
        refine ⟨_, rfl, _, _, rfl, rfl, _, _, rfl, rfl, .inl ⟨by omega, by omega⟩, l, _, _, rfl, rfl, em, small1000 (by rw [List.length_map, List.length_map]; omega), _, _, _, _, _, rfl, same_at sq nl, ?_⟩
        rw [upd_same, tk1, List.map_append]
        unfold tL
        rw [List.map_append]
        simp only [rdF, List.map_cons, List.map_nil, if_neg c]
    · obtain ⟨y4, y5, y6, y7, y8, rfl, sm, em⟩ := h
      rw [List.take_of_length_le (by rw [List.length_zip]; omega)] at em
      exact ⟨_, rfl, l, _, rfl, .inl ⟨sq_lst em, fun q nq => fin _ q (sm.trans (same_upd nq)) upd_same⟩⟩
/-! ### all thresholds -/
def comN (st : List Fr) : Nat := st.foldl (fun c f => Nat.lcm c f.2.natAbs) 1
theorem comN_pos : ∀ {st : List Fr} {c : Nat}, 0 < c → (∀ f ∈ st, F12 f) → 0 < st.foldl (fun c f => Nat.lcm c f.2.natAbs) c
  | [], _, h, _ => h
  | f :: st, c, h, g => comN_pos (st := st) (Nat.lcm_pos h (by have := (g f (.head _)).pos; omega)) fun x hx => g x (.tail _ hx)
theorem comN_dvd : ∀ {st : List Fr} {c : Nat}, c ∣ 12 → (∀ f ∈ st, F12 f) → st.foldl (fun c f => Nat.lcm c f.2.natAbs) c ∣ 12
  | [], _, h, _ => h
  | f :: st, c, h, g => comN_dvd (st := st) (Nat.lcm_dvd h (Int.natAbs_dvd_natAbs.mpr (g f (.head _)).dv)) fun x hx => g x (.tail _ hx)
def szF (c : Nat) (x : Fr × Int) : Option Int := if x.2 * x.1.1 % x.1.2 ≠ 0 then some (x.2 * x.1.1 % x.1.2 * ((c : Int) / x.1.2)) else none
def szs (st : List Fr) (ts : List Int) : List Int := (comN st : Int) :: (st.zip ts).filterMap (szF (comN st))
theorem div_bd'' {t b : Int} {n : Nat} (h : t.natAbs ≤ n) : (t / b).natAbs ≤ n := Nat.le_trans (Int.natAbs_ediv_le_natAbs t b) h
theorem sz_bd {st : List Fr} {ts : List Int} (f12 : ∀ f ∈ st, F12 f) (pm : Pm ts) (cl : comN st ≤ 12) (n : Int) (h : n ∈ szs st ts) : n.natAbs ≤ 1000 := by
  rcases List.mem_cons.mp h with rfl | h
  · omega
  obtain ⟨⟨f, t⟩, hx, e⟩ := List.mem_filterMap.mp h
  have hf := f12 f (List.of_mem_zip hx).1
  have hp := hf.pos
  have hl := hf.le
  unfold szF at e
  dsimp only at e
  split at e
  · cases e
    have e0 := Int.emod_nonneg (t * f.1) (show f.2 ≠ 0 by omega)
    have e1 := Int.emod_lt_of_pos (t * f.1) hp
    have d0 : ((comN st : Nat) : Int) / f.2 ≤ 12 := Int.le_trans (Int.ediv_le_self _ (by omega)) (by omega)
    have d1 : 0 ≤ ((comN st : Nat) : Int) / f.2 := Int.ediv_nonneg (by omega) (by omega)
    have m := Int.mul_le_mul (show t * f.1 % f.2 ≤ 12 by omega) d0 d1 (by decide)
    have m0 := Int.mul_nonneg e0 d1
    omega
  · cases e
def PP (H : Hp) (v : V) (x : Fr × List Int) : Prop := ∃ p u u2, v = .ref p ∧ H p = some (.tup [u, u2]) ∧ FV H u x.1 ∧ LV H u2 x.2
theorem PP.tk {H H' : Hp} {v : V} {x : Fr × List Int} (h : PP H v x) (s : TK H H') : PP H' v x := by
  obtain ⟨p, u, u2, e, f, g, k⟩ := h
  exact ⟨p, u, u2, e, s _ _ f, g.tk s, k.tk s⟩
def thP (st : List Fr) (ts : List Int) (n : Int) : Fr × List Int := (lowF n (comN st : Nat), rnd st ts (lowF n (comN st : Nat)))
abbrev s_threshold_points : Stmt := topS 43
abbrev n_threshold_points : List Str := ["start", "turns", "common", "_", "bottom", "sizes", "top", "turn", "excess", "pairs", "size", "threshold"]
theorem sc_threshold_points : FnScope n_threshold_points ["start", "turns"] (defScope s_threshold_points) := ⟨rfl, rfl, rfl, by decide +kernel, rfl, by decide +kernel, by decide +kernel⟩
def spThr : Sp := fun vs H Q _ => ∃ (sv tv : V) (st : List Fr) (ts : List Int), vs = [sv, tv] ∧ SV H sv st ∧ LV H tv ts ∧ ts.length = st.length ∧ st.length ≤ 50 ∧ (∀ f ∈ st, F12 f) ∧ Pm ts ∧
  ∀ (ns : List Int) H' p us, ns.Pairwise (· < ·) → (∀ k, k ∈ ns ↔ k ∈ szs st ts) → Same H H' → H' p = some (.tup us) → All2 (PP H') us (ns.map (thP st ts)) → Q (.ref p) H'
theorem ok_threshold_points {f : Addr} {fd : FuncData} (F : Fun K "threshold_points" "threshold_points" s_threshold_points f fd) (T : Txt K mg w aW aT es nn) (c_fraction_of : Cal P w K mg base 1 "fraction_of" spFrac []) (c_rounded_at : Cal P w K mg base 2 "rounded_at" spRat []) : FnOk P w K mg base CX0 3 f fd ["start", "turns"] spThr := by
  refine F.ok sc_threshold_points (fun vs H Q E h => ?_) (fun cdv A outer s H vs Q E hr h => ?_)
  · obtain ⟨sv, tv, st, ts, rfl, _⟩ := h
    rfl
  · obtain ⟨sv, tv, st, ts, rfl, sv0, tv0, lts, l50, f12, pm, fin⟩ := h
    obtain ⟨ps, fs, rfl, hps, fv⟩ := id sv0
    obtain ⟨pt, rfl, hpt⟩ := id tv0
    have lf := fv.len
    have cp : 0 < comN st := comN_pos (by decide) f12
    have cd : comN st ∣ 12 := comN_dvd (by decide) f12
    have cl : comN st ≤ 12 := Nat.le_of_dvd (by decide) cd
    refine ⟨_, (pss_cons (ps_set (i := 2) sc_threshold_points.nd rfl (.inl rfl) pe_int)
      (pss_cons (ps_for PassesOwn.never rfl (pi_tup (pv 0)) (pg_tup rfl (pgs_cons (pg_name (i := 3) sc_threshold_points.nd rfl (.inl rfl)) (pgs_cons (pg_name (i := 4) sc_threshold_points.nd rfl (.inl rfl)) pgs_nil))) (pss_one (ps_set (i := 2) sc_threshold_points.nd rfl (.inl rfl) (pe_callBfun cr_lcm (by rfl) T.g_lcm (pa_cons (pv 2) (pa_cons (pv 4) pa_nil))))))
      (pss_cons (ps_set (i := 5) sc_threshold_points.nd rfl (.inl rfl) (pe_lst (pa_cons (pv 2) pa_nil)))
      (pss_cons (ps_for PassesOwn.never rfl (RZ.pi_zipA (by rfl) T.b_zip (pa_cons (pv 0) (pa_cons (pv 1) pa_nil))) (pg_tup rfl (pgs_cons (pg_tup rfl (pgs_cons (pg_name (i := 6) sc_threshold_points.nd rfl (.inl rfl)) (pgs_cons (pg_name (i := 4) sc_threshold_points.nd rfl (.inl rfl)) pgs_nil))) (pgs_cons (pg_name (i := 7) sc_threshold_points.nd rfl (.inl rfl)) pgs_nil))) (pss_cons (ps_set (i := 8) sc_threshold_points.nd rfl (.inl rfl) (pe_op op_mod (pe_op op_mul (pv 7) (pv 6)) (pv 4)))
        (pss_one (ps_if (pt_cmpR op_ne (pv 8) pe_int (nomark _)) (pss_one (ps_expr (pe_bm PySem.F.plainAttrs_list PySem.F.slot_list_append PySem.F.type_list_append mt_append (pv 5) (pa_cons (pe_op op_mul (pv 8) (pe_op op_fdiv (pv 2) (pv 4))) pa_nil)))) pss_nil))))
      (pss_cons (ps_set (i := 9) sc_threshold_points.nd rfl (.inl rfl) (pe_lst pa_nil))
      (pss_cons (ps_for PassesOwn.never rfl (pi_list (pe_callB (cr_sortedSet rfl) (by rfl) T.b_sorted (by decide +kernel) (pa_cons (pe_callTy (cr_setL rfl) (by rfl) T.b_set (by decide +kernel) (pa_cons (pv 5) pa_nil)) pa_nil))) (pg_name (i := 10) sc_threshold_points.nd rfl (.inl rfl)) (pss_cons (ps_set (i := 11) sc_threshold_points.nd rfl (.inl rfl) (pe_c c_fraction_of hr (by decide) (by rfl) (pa_cons (pv 10) (pa_cons (pv 2) pa_nil))))
        (pss_one (ps_expr (pe_bm PySem.F.plainAttrs_list PySem.F.slot_list_append PySem.F.type_list_append mt_append (pv 9) (pa_cons (pe_tup (pa_cons (pv 11) (pa_cons (pe_c c_rounded_at hr (by decide) (by rfl) (pa_cons (pv 0) (pa_cons (pv 1) (pa_cons (pv 11) pa_nil)))) pa_nil))) pa_nil))))))
      (pss_one (ps_ret (pe_callTy call_tuple_of (by rfl) T.b_tuple (by decide +kernel) (pa_cons (pv 9) pa_nil)))))))))), ?_⟩
    refine ⟨_, rfl, ps, rfl, ⟨_, sq_tup hps⟩, for_tup (K := K) (a := ps) (xs := fs) (fun i σ H' => ∃ y3 y4, σ = [some (.ref ps), some (.ref pt), some (.int (comN (st.take i) : Nat)), y3, y4, none, none, none, none, none, none, none] ∧ H' = H)
      ⟨none, none, rfl, rfl⟩ (fun i σ H' _ h => by obtain ⟨_, _, _, e⟩ := h; rw [e]; exact sq_tup hps) (fun i v σ H' hv h => ?_) (fun σ H' h => ?_)⟩
    · obtain ⟨y3, y4, rfl, rfl⟩ := h
      obtain ⟨fr, hfr, pf, rfl, hpf⟩ := fv.at_ hv
      have ff := f12 fr (List.mem_of_getElem? hfr)
      have p12 := Nat.le_of_dvd (by decide) (comN_dvd (st := st.take i) (c := 1) (by decide) fun f hf => f12 f (List.mem_of_mem_take hf))
      have fle := ff.le
      have fpos := ff.pos
      refine ⟨pf, _, rfl, sq_tup hpf, rfl, _, _, rfl, _, _, rfl, rfl, ?_⟩
      refine ⟨_, rfl, _, rfl, _, _, rfl, ?_, ?_, some (.int fr.1), some (.int fr.2), ?_, rfl⟩
      · rw [Int.natAbs_natCast]
        exact Nat.lt_of_le_of_lt p12 (by decide)
      · exact Nat.lt_of_le_of_lt (show fr.2.natAbs ≤ 12 by omega) (by decide)
      · unfold comN
        rw [take_one hfr, List.foldl_append]; rfl
    · obtain ⟨y3, y4, rfl, rfl⟩ := h
      rw [lf, List.take_length]
      refine ⟨_, rfl, len1, fun l nl => ?_⟩
      have k1 := same_upd (o := .lst [.int (comN st : Nat)]) nl
      have el : upd H' l (.lst [.int (comN st : Nat)]) l = some (.lst [.int (comN st : Nat)]) := upd_same
      generalize upd H' l (.lst [.int (comN st : Nat)]) = H1 at *
      refine ⟨_, rfl, _, rfl, ps, pt, _, _, rfl, .inr ⟨sq_tup (k1 _ _ hps), sq_tup (k1 _ _ hpt), RZ.for_zipT (K := K) (a := ps) (b := pt) (xs := fs) (ys := ts.map V.int) (by rw [List.length_map]; omega)
        (fun i σ H2 => ∃ y3 y4 y6 y7 y8, σ = [some (.ref ps), some (.ref pt), some (.int (comN st : Nat)), y3, y4, some (.ref l), y6, y7, y8, none, none, none] ∧ Same H' H2 ∧ H2 l = some (tL ((comN st : Int) :: ((st.zip ts).take i).filterMap (szF (comN st)))))
        ⟨_, _, none, none, none, rfl, k1, el⟩ (fun i σ H2 h => ?_) (fun i v1 v2 T' σ H2 h1 h2 h nT => ?_) (fun σ H2 h => ?_)⟩⟩
      · obtain ⟨y3, y4, y6, y7, y8, rfl, sm, em⟩ := h
        exact ⟨sq_tup (sm _ _ hps), sq_tup (sm _ _ hpt)⟩
      · obtain ⟨y3, y4, y6, y7, y8, rfl, sm, em⟩ := h
        obtain ⟨fr, hfr, pf, rfl, hpf⟩ := fv.at_ h1
        obtain ⟨t, ht, rfl⟩ := at_map h2
        have li : i < st.length := (List.getElem?_eq_some_iff.mp hfr).1
        have ff := f12 fr (List.mem_of_getElem? hfr)
        have tt := pm t (List.mem_of_getElem? ht)
        have tk1 := take_one (zip_at hfr ht)
        have lm : (((st.zip ts).take i).filterMap (szF (comN st))).length ≤ 50 := by
          refine Nat.le_trans (List.length_filterMap_le ..) ?_
          rw [List.length_take, List.length_zip]; omega
        have fle := ff.le
        have fbd := ff.bd
        have fpos := ff.pos
        have tb : (t * fr.1).natAbs ≤ 1000 := by rcases tt with rfl | rfl <;> omega
        have e0 := Int.emod_nonneg (t * fr.1) (show fr.2 ≠ 0 by omega)
        have e1 := Int.emod_lt_of_pos (t * fr.1) fpos
        have sT := sm.trans (same_upd (o := .tup [.ref pf, .int t]) nT)
        have eT : upd H2 T' (.tup [.ref pf, .int t]) T' = some (.tup [.ref pf, .int t]) := upd_same
        have em := same_upd (o := .tup [.ref pf, .int t]) nT _ _ em
        generalize upd H2 T' (.tup [.ref pf, .int t]) = H3 at *
        refine ⟨T', _, rfl, sq_tup eT, rfl, _, _, rfl, pf, _, rfl, sq_tup (sT _ _ hpf), rfl, _, _, rfl, _, _, rfl, rfl, _, _, rfl, rfl, ?_⟩
        refine ⟨_, rfl, _, rfl, _, _, rfl, rfl, .inl ⟨by omega, by omega⟩, _, rfl, _, _, rfl, rfl, fpos, ?_⟩
        refine ⟨_, rfl, rfl, _, rfl, ite2 (fun c => ?_) (fun c => ?_)⟩
        · have c : t * fr.1 % fr.2 ≠ 0 := by simpa using c
          refine ⟨_, rfl, .inl ⟨rfl, _, sq_lst em⟩, _, rfl, _, rfl, _, rfl, _, _, rfl, rfl, ⟨fpos, by omega⟩, _, _, rfl, rfl, .inl ⟨by omega, by omega⟩, l, _, _, rfl, rfl, em, small1000 (by rw [List.length_map, List.length_cons]; omega), _, _, _, _, _, rfl, same_at sT nl, ?_⟩
          rw [upd_same, tk1, List.filterMap_append]
          unfold tL
          simp only [List.filterMap_cons, List.filterMap_nil, szF, if_pos c, List.map_cons, List.map_append, List.map_nil, List.cons_append]
        · have c : t * fr.1 % fr.2 = 0 := by simpa using c
          refine ⟨_, _, _, _, _, rfl, sT, ?_⟩
          rw [em, tk1, List.filterMap_append]
          simp only [List.filterMap_cons, List.filterMap_nil, szF, c, ne_eq, not_true_eq_false, if_false, List.append_nil]
      · obtain ⟨y3, y4, y6, y7, y8, rfl, sm, em⟩ := h
        rw [List.take_of_length_le (by rw [List.length_zip]; omega)] at em
        have few : (szs st ts).length ≤ 51 := by
          have := List.length_filterMap_le (szF (comN st)) (st.zip ts)
          rw [List.length_zip] at this
          show _ + 1 ≤ 51
          omega
        refine ⟨nil_ok, fun l2 nl2 => ?_⟩
        have k2 := same_upd (o := .lst []) nl2
        have el2 : upd H2 l2 (.lst []) l2 = some (.lst []) := upd_same
        have em := k2 _ _ em
        have sm2 := sm.trans k2
        have nl2' : H' l2 = none := sm.free nl2
        generalize upd H2 l2 (.lst []) = H3 at *
        refine ⟨_, rfl, l, szs st ts, rfl, sq_lst em, by omega, fun p c hc np => ⟨p, _, c, rfl, upd_same, by omega, fun ns p2 pw mem ln np2 => ?_⟩⟩
        have mem2 : ∀ k, k ∈ ns ↔ k ∈ szs st ts := fun k => (mem k).trans decide_eq_true_iff
        have sm4 := (sm2.trans (same_upd (o := SetO w p (fun j => decide (j ∈ szs st ts)) c) np)).trans (same_upd (o := .lst (ns.map V.int)) np2)
        have hns : upd (upd H3 p (SetO w p (fun j => decide (j ∈ szs st ts)) c)) p2 (.lst (ns.map V.int)) p2 = some (.lst (ns.map V.int)) := upd_same
        have nep0 : l2 ≠ p2 := ne_of_none (same_upd (o := SetO w p (fun j => decide (j ∈ szs st ts)) c) np _ _ el2) np2
        have hl2 := same_upd (o := .lst (ns.map V.int)) np2 _ _ (same_upd (o := SetO w p (fun j => decide (j ∈ szs st ts)) c) np _ _ el2)
        have bn : ∀ n ∈ ns, n.natAbs ≤ 1000 := fun n hn => sz_bd f12 pm cl n ((mem2 n).mp hn)
        have nep : l2 ≠ p2 := nep0
        refine ⟨p2, rfl, ⟨_, sq_lst hns⟩, for_list (K := K) (a := p2) (xs := ns.map V.int) (fun i σ H5 => ∃ y10 y11 us, σ = [some (.ref ps), some (.ref pt), some (.int (comN st : Nat)), y3, y4, some (.ref l), y6, y7, y8, some (.ref l2), y10, y11] ∧ Same H' H5 ∧ H5 p2 = some (.lst (ns.map V.int)) ∧ H5 l2 = some (.lst us) ∧ All2 (PP H5) us ((ns.take i).map (thP st ts)))
          ⟨none, none, [], rfl, sm4, hns, hl2, .nil⟩ (fun i σ H5 _ h => by obtain ⟨_, _, _, _, _, e, _⟩ := h; exact sq_lst e) (fun i v σ H5 hv h => ?_) (fun σ H5 h => ?_)⟩
        · obtain ⟨y10, y11, us, rfl, sm5, hns5, hl5, al⟩ := h
          obtain ⟨n, hn, rfl⟩ := at_map hv
          have bn := bn n (List.mem_of_getElem? hn)
          have li : i < ns.length := (List.getElem?_eq_some_iff.mp hn).1
          have lu := al.len
          rw [List.length_map, List.length_take] at lu
          refine ⟨_, rfl, _, rfl, n, (comN st : Nat), rfl, by omega, by omega, fun H6 q s6 hq => ?_⟩
          have lb1 : (lowF n (comN st : Nat)).1.natAbs ≤ 1000 := div_bd'' bn
          have lb2 : (lowF n (comN st : Nat)).2.natAbs ≤ 1000 := div_bd'' (by omega)
          refine ⟨_, rfl, .inl ⟨rfl, _, sq_lst (s6 _ _ hl5)⟩, _, rfl, _, rfl, _, rfl, _, rfl, .ref ps, .ref pt, .ref q, st, ts, lowF n (comN st : Nat), rfl, sv0.same (sm5.trans s6), tv0.same (sm5.trans s6), ⟨q, rfl, hq⟩, lts, by omega, f12, pm, by omega, by omega, fun H7 q2 s7 hq2 => ⟨len2, fun q3 nq3 => ?_⟩⟩
          have s8 := s7.trans (same_upd (o := .tup [.ref q, .ref q2]) nq3)
          have h8 : upd H7 q3 (.tup [.ref q, .ref q2]) q3 = some (.tup [.ref q, .ref q2]) := upd_same
          have hq8 := s8 _ _ hq
          have hq28 := same_upd (o := .tup [.ref q, .ref q2]) nq3 _ _ hq2
          generalize upd H7 q3 (.tup [.ref q, .ref q2]) = H8 at *
          have s58 := s6.trans s8
          have hl8 := s58 _ _ hl5
          refine ⟨l2, _, _, rfl, rfl, hl8, small1000 (by omega), _, _, us ++ [.ref q3], rfl, same_at (sm5.trans s58) nl2', (by rw [upd_ne nep.symm]; exact s58 _ _ hns5), upd_same, ?_⟩
          rw [take_one hn, List.map_append]
          exact (al.mono fun v x k => k.tk ((TK.of s58).trans (.put hl8))).app ⟨q3, .ref q, .ref q2, rfl, TK.put hl8 _ _ h8, ⟨q, rfl, TK.put hl8 _ _ hq8⟩, ⟨q2, rfl, TK.put hl8 _ _ hq28⟩⟩
        · obtain ⟨y10, y11, us, rfl, sm5, hns5, hl5, al⟩ := h
          rw [List.length_map, List.take_length] at al
          refine ⟨_, rfl, l2, us, rfl, .inl ⟨sq_lst hl5, fun q nq => ?_⟩⟩
          have s9 := same_upd (o := .tup us) nq
          exact fin ns _ q us pw mem2 (sm5.trans s9) upd_same (al.mono fun v x k => k.tk (.of s9))
end
end M57

namespace M57
open PySem PySem.Spec PyProof.Rows L2 SX Own Gd
open C8 (Cal pe_c pe_gc pe_mk Mak pss_cut)
/-! ### turns along links -/
abbrev Mp := Nat → Option Int
abbrev Lk := Nat × Int
def Mp.put (m : Mp) (k : Nat) (t : Int) : Mp := fun j => if j = k then some t else m j
def un (n : Nat) (m : Mp) : Nat := ((List.range n).filter fun k => (m k).isNone).length
theorem un_succ (n : Nat) (m : Mp) : un (n + 1) m = un n m + if (m n).isNone then 1 else 0 := by
  unfold un
  rw [List.range_succ, List.filter_append, List.length_append]
  congr 1
  cases h : (m n).isNone <;> simp [h]
theorem un_ge {m : Mp} {k : Nat} {t : Int} : ∀ {n : Nat}, n ≤ k → un n (m.put k t) = un n m
  | 0, _ => rfl
  | n + 1, h => by
    have e2 : (m.put k t) n = m n := by
      unfold Mp.put
      rw [if_neg (by omega)]
    rw [un_succ, un_succ, un_ge (by omega), e2]
theorem un_put {m : Mp} {k : Nat} {t : Int} (hk : m k = none) : ∀ {n : Nat}, k < n → un n (m.put k t) + 1 = un n m
  | 0, h => absurd h (by omega)
  | n + 1, h => by
    rw [un_succ, un_succ]
    by_cases e : k = n
    · subst e
      rw [un_ge (Nat.le_refl _), hk]
      unfold Mp.put
      rw [if_pos rfl]; rfl
    · have := un_put hk (n := n) (t := t) (by omega)
      have e2 : (m.put k t) n = m n := by
        unfold Mp.put
        rw [if_neg (by omega)]
      rw [e2]
      omega
theorem un_le (n : Nat) (m : Mp) : un n m ≤ n := Nat.le_trans (List.length_filter_le ..) (by rw [List.length_range]; exact Nat.le_refl _)
def linkF (t : Int) : Mp × List Nat → List Lk → Option (Mp × List Nat)
  | s, [] => some s
  | s, x :: es => match s.1 x.1 with
    | none => linkF t (s.1.put x.1 (t * x.2), s.2 ++ [x.1]) es
    | some u => if u = t * x.2 then linkF t s es else none
def waitF (L : Nat → List Lk) : Nat → Mp → List Nat → Option Mp
  | 0, m, _ => some m
  | F + 1, m, wl => match wl.getLast? with
    | none => some m
    | some a => match linkF ((m a).getD 0) (m, wl.dropLast) (L a) with
      | none => none
      | some s => waitF L F s.1 s.2
def allF (L : Nat → List Lk) (F : Nat) : Nat → Option Mp
  | 0 => some fun _ => none
  | s + 1 => match allF L F s with
    | none => none
    | some m => if (m s).isSome then some m else waitF L F (m.put s 1) [s]
theorem allF_none {L : Nat → List Lk} {F s : Nat} (h : allF L F s = none) : ∀ {n}, s ≤ n → allF L F n = none
  | 0, e => by
    obtain rfl : s = 0 := by omega
    exact h
  | n + 1, e => by
    by_cases z : s = n + 1
    · exact z ▸ h
    · rw [allF, allF_none h (n := n) (by omega)]
theorem put_has {m : Mp} {k j : Nat} {t : Int} (h : ∃ u, m j = some u) : ∃ u, (m.put k t) j = some u := by
  unfold Mp.put
  split
  · exact ⟨_, rfl⟩
  · exact h
theorem linkF_has {t : Int} {j : Nat} : ∀ {es : List Lk} {s s' : Mp × List Nat}, linkF t s es = some s' → (∃ u, s.1 j = some u) → ∃ u, s'.1 j = some u
  | [], s, s', e, h => by
    rw [linkF] at e
    cases e
    exact h
  | x :: es, s, s', e, h => by
    rw [linkF] at e
    split at e
    · exact linkF_has e (put_has h)
    · split at e
      · exact linkF_has e h
      · cases e
theorem waitF_has {L : Nat → List Lk} {j : Nat} : ∀ {F : Nat} {m m' : Mp} {wl : List Nat}, waitF L F m wl = some m' → (∃ u, m j = some u) → ∃ u, m' j = some u
  | 0, m, m', wl, e, h => by
    rw [waitF] at e
    cases e
    exact h
  | F + 1, m, m', wl, e, h => by
    rw [waitF] at e
    split at e
    · cases e
      exact h
    · split at e
      · cases e
      · rename_i hs
        exact waitF_has e (linkF_has hs h)
theorem allF_set {L : Nat → List Lk} {F : Nat} : ∀ {n : Nat} {m : Mp}, allF L F n = some m → ∀ j, j < n → ∃ u, m j = some u
  | 0, _, _, j, h => absurd h (by omega)
  | n + 1, m, e, j, h => by
    rw [allF] at e
    split at e
    · cases e
    · rename_i m0 h0
      have old : j < n → ∃ u, m0 j = some u := allF_set h0 j
      split at e
      · rename_i hs
        cases e
        by_cases z : j = n
        · exact z ▸ Option.isSome_iff_exists.mp hs
        · exact old (by omega)
      · refine waitF_has e ?_
        by_cases z : j = n
        · unfold Mp.put
          rw [if_pos z]
          exact ⟨_, rfl⟩
        · exact put_has (old (by omega))
def alongF (L : Nat → List Lk) (n : Nat) : Option (List Int) := (allF L (2 * n + 2) n).map fun m => (List.range n).map fun k => (m k).getD 0
/-- a dict from places to turns -/
def DM (H : Hp) (d : Addr) (n : Nat) (m : Mp) : Prop := ∃ kvs, H d = some (.dK kvs) ∧ (∀ k : Nat, valV kvs (.inl (k : Int)) = (m k).map V.int) ∧ kvs.length + un n m ≤ n
theorem DM.get {H : Hp} {d : Addr} {n : Nat} {m : Mp} (h : DM H d n m) (k : Nat) : DGet H d (.int (k : Int)) ((m k).map V.int) := by
  obtain ⟨kvs, e, f, _⟩ := h
  rw [← f k]
  exact DGet.k (k := .inl (k : Int)) e
theorem DM.put {H : Hp} {d : Addr} {n : Nat} {m : Mp} (h : DM H d n m) {k : Nat} (hk : k < n) (hm : m k = none) (hn : n ≤ 1000) (t : Int) : ∃ H', DPut H d (.int (k : Int)) (.int t) H' ∧ DM H' d n (m.put k t) ∧ (∀ b, b ≠ d → H' b = H b) := by
  obtain ⟨kvs, e, f, l⟩ := h
  have u := un_put hm (t := t) hk
  refine ⟨_, DPut.k (k := .inl (k : Int)) e (small1000 (by omega)), ⟨_, upd_same, fun j => ?_, ?_⟩, fun b nb => upd_ne nb⟩
  · rw [valV_put]
    unfold Mp.put
    by_cases z : j = k
    · subst z; rw [if_pos rfl, if_pos rfl]; rfl
    · rw [if_neg z, if_neg (show ¬ (Sum.inl (j : Int) : Key) = Sum.inl (k : Int) from fun y => z (Int.ofNat.inj (Sum.inl.inj y)))]; exact f j
  · have := length_putK kvs (.inl (k : Int)) (.int t)
    omega
theorem DM.same {H H' : Hp} {d : Addr} {n : Nat} {m : Mp} (h : DM H d n m) (s : Same H H') : DM H' d n m := by
  obtain ⟨kvs, e, f, l⟩ := h
  exact ⟨kvs, s _ _ e, f, l⟩
theorem DM.off {H H' : Hp} {d : Addr} {n : Nat} {m : Mp} (h : DM H d n m) (s : H' d = H d) : DM H' d n m := by
  obtain ⟨kvs, e, f, l⟩ := h
  exact ⟨kvs, s.trans e, f, l⟩
def EP (H : Hp) (v : V) (x : Lk) : Prop := ∃ p, v = .ref p ∧ H p = some (.tup [.int (x.1 : Nat), .int x.2])
theorem EP.tk {H H' : Hp} {v : V} {x : Lk} (h : EP H v x) (s : TK H H') : EP H' v x := by
  obtain ⟨p, e, f⟩ := h
  exact ⟨p, e, s _ _ f⟩
structure LL (H : Hp) (p : Addr) (qs : List Addr) (L : Nat → List Lk) : Prop where
  at_ : H p = some (.lst (qs.map V.ref))
  it : ∀ (j : Nat) q, qs[j]? = some q → ∃ us, H q = some (.lst us) ∧ All2 (EP H) us (L j)
theorem LL.same {H H' : Hp} {p : Addr} {qs : List Addr} {L : Nat → List Lk} (h : LL H p qs L) (s : Same H H') : LL H' p qs L :=
  ⟨s _ _ h.at_, fun j q e => by
    obtain ⟨us, a, b⟩ := h.it j q e
    exact ⟨us, s _ _ a, b.mono fun v x k => k.tk (.of s)⟩⟩
def OkL (n : Nat) (L : Nat → List Lk) : Prop := ∀ j, ∀ x ∈ L j, x.1 < n ∧ (x.2 = 1 ∨ x.2 = -1)
/-- all turns so far 1 or -1 -/
def PmM (m : Mp) : Prop := ∀ k t, m k = some t → t = 1 ∨ t = -1
theorem PmM.put {m : Mp} (h : PmM m) {k : Nat} {t : Int} (ht : t = 1 ∨ t = -1) : PmM (m.put k t) := fun j u e => by
  unfold Mp.put at e
  split at e
  · cases e; exact ht
  · exact h j u e
theorem pm_mul {a b : Int} (h : a = 1 ∨ a = -1) (g : b = 1 ∨ b = -1) : a * b = 1 ∨ a * b = -1 := by
  rcases h with rfl | rfl <;> rcases g with rfl | rfl <;> simp
section
variable {P : Program} {w : World} {K : PySem.W.Frag} {mg : Str → Option Value} {base : Heap} {aW aT : Addr} {es : Array DictEntry} {nn : Nat}
abbrev s_turns_along : Stmt := topS 41
abbrev n_turns_along : List Str := ["linked", "turns", "start", "waiting", "at", "other", "product"]
theorem sc_turns_along : FnScope n_turns_along ["linked"] (defScope s_turns_along) := ⟨rfl, rfl, rfl, by decide +kernel, rfl, by decide +kernel, by decide +kernel⟩
def spAlong : Sp := fun vs H Q _ => ∃ (p : Addr) (qs : List Addr) (L : Nat → List Lk), vs = [.ref p] ∧ LL H p qs L ∧ qs.length ≤ 100 ∧ OkL qs.length L ∧ (∀ H', Same H H' → alongF L qs.length = none → Q .non H') ∧
  ∀ H' q ts, Same H H' → alongF L qs.length = some ts → H' q = some (tI ts) → Q (.ref q) H'
theorem ok_turns_along {f : Addr} {fd : FuncData} (F : Fun K "_turns_along" "_turns_along" s_turns_along f fd) (T : Txt K mg w aW aT es nn) : FnOk P w K mg base CX0 1 f fd ["linked"] spAlong := by
  refine F.ok sc_turns_along (fun vs H Q E h => ?_) (fun cdv A outer s H vs Q E hr h => ?_)
  · obtain ⟨p, qs, L, rfl, _⟩ := h
    rfl
  · obtain ⟨p, qs, L, rfl, ll, l100, ok, fin0, fin1⟩ := h
    refine ⟨_, (pss_cons (ps_set (i := 1) sc_turns_along.nd rfl (.inr rfl) pe_dnewK)
      (pss_cons (ps_for PassesOwn.never rfl (pi_range1 (by rfl) T.b_range (pa_cons (pe_callB call_len_seq (by rfl) T.b_len (by decide +kernel) (pa_cons (pv 0) pa_nil)) pa_nil)) (pg_name (i := 2) sc_turns_along.nd rfl (.inl rfl)) (pss_cons (ps_if (pt_cmpR (op_inDc hr.units1) (pv 2) (pv 1) (by rfl)) (pss_one ps_continue) pss_nil)
        (pss_cons (ps_asg pe_int (pg_sub (pv 1) (pv 2) (set_dict hr.units1)))
        (pss_cons (ps_set (i := 3) sc_turns_along.nd rfl (.inl rfl) (pe_lst (pa_cons (pv 2) pa_nil)))
        (pss_one (ps_while PassesOwn.never (pt_truth (pv 3) (by intro _; rfl)) (pss_cons (ps_set (i := 4) sc_turns_along.nd rfl (.inl rfl) (pe_bm0 PySem.F.plainAttrs_list PySem.F.slot_list_pop PySem.F.type_list_pop mt_pop (pv 3)))
          (pss_one (ps_for PassesOwn.never rfl (pi_list (pe_ix ix_list (pv 0) (pv 4) (fun _ _ => rfl))) (pg_tup rfl (pgs_cons (pg_name (i := 5) sc_turns_along.nd rfl (.inl rfl)) (pgs_cons (pg_name (i := 6) sc_turns_along.nd rfl (.inl rfl)) pgs_nil))) (pss_one (ps_if (pt_cmpR (op_notInDc hr.units1) (pv 5) (pv 1) (by rfl)) (pss_cons (ps_asg (pe_op op_mul (pe_dget hr.units1 (pv 1) (pv 4) (fun _ _ => rfl)) (pv 6)) (pg_sub (pv 1) (pv 5) (set_dict hr.units1)))
              (pss_one (ps_expr (pe_bm PySem.F.plainAttrs_list PySem.F.slot_list_append PySem.F.type_list_append mt_append (pv 3) (pa_cons (pv 5) pa_nil))))) (pss_one (ps_if (pt_cmpR op_ne (pe_dget hr.units1 (pv 1) (pv 5) (fun _ _ => rfl)) (pe_op op_mul (pe_dget hr.units1 (pv 1) (pv 4) (fun _ _ => rfl)) (pv 6)) (nomark _)) (pss_one (ps_ret pe_non)) pss_nil)))))))))))))
      (pss_one (ps_ret (pe_callTy call_tuple_of (by rfl) T.b_tuple (by decide +kernel) (pa_cons (pe_lc (own := [("at", 4)]) rfl sc_turns_along.nd (pi_range1 (by rfl) T.b_range (pa_cons (pe_callB call_len_seq (by rfl) T.b_len (by decide +kernel) (pa_cons (pv 0) pa_nil)) pa_nil)) (blkOk_by (N := n_turns_along) (sc := defScope s_turns_along) (by decide +kernel)) (fun _ _ _ _ _ => (pg_name (i := 4) sc_turns_along.nd rfl (.inl rfl))) (fun _ _ _ _ _ => pts_nil) (fun _ _ _ _ _ => (pe_dget hr.units1 (pv 1) (pv 4) (fun _ _ => rfl)))) pa_nil)))))), ?_⟩
    refine fun d nd => ?_
    have k0 := same_upd (o := .dK []) nd
    have hd0 : upd H d (.dK []) d = some (.dK []) := upd_same
    generalize upd H d (.dK []) = H1 at *
    have dm0 : DM H1 d qs.length (fun _ => none) := ⟨[], hd0, fun k => rfl, by rw [List.length_nil, Nat.zero_add]; exact un_le _ _⟩
    refine ⟨_, rfl, p, _, rfl, .inl (sq_lst (k0 _ _ ll.at_)), _, rfl, by rw [List.length_map]; omega, by rw [List.length_map]; omega, ?_⟩
    rw [List.length_map]
    refine for_range (lo := 0) (n := ((qs.length : Nat) : Int).toNat) (fun i σ H' => ∃ y2 y3 y4 y5 y6 m, σ = [some (.ref p), some (.ref d), y2, y3, y4, y5, y6] ∧ Same H H' ∧ DM H' d qs.length m ∧ PmM m ∧ allF L (2 * qs.length + 2) i = some m)
      ⟨none, none, none, none, none, _, rfl, k0, dm0, fun k t e => (by cases e), rfl⟩ (fun i σ H2 hi hI => ?_) (fun σ H2 hI => ?_)
    · obtain ⟨y2, y3, y4, y5, y6, m, rfl, sm, dm, pmm, ha⟩ := hI
      rw [Int.toNat_natCast] at hi
      rw [show ((0 : Int) + (i : Nat)) = (i : Int) by omega]
      have hs : ∀ R, allF L (2 * qs.length + 2) (i + 1) = R → (if (m i).isSome then some m else waitF L (2 * qs.length + 2) (m.put i 1) [i]) = R := fun R e => by
        rw [← e, allF, ha]
      refine ⟨_, rfl, _, rfl, d, _, rfl, dm.get i, _, rfl, ?_⟩
      cases hm : m i with
      | some u =>
        refine iteT ⟨_, _, _, _, _, m, rfl, sm, dm, pmm, ?_⟩
        rw [allF, ha]
        dsimp only
        rw [hm]; rfl
      | none =>
        refine iteF ?_
        obtain ⟨H3, dp, dm3, off3⟩ := dm.put hi hm (by omega) 1
        refine ⟨_, rfl, _, rfl, d, H3, rfl, dp, ?_⟩
        have nd2 : H d = none := nd
        have sm3 : Same H H3 := fun b o e => (off3 b (fun z => by rw [z, nd2] at e; cases e)).trans (sm b o e)
        refine ⟨_, rfl, len1, fun wq nw => ?_⟩
        have hw : upd H3 wq (.lst [.int (i : Nat)]) wq = some (.lst [.int (i : Nat)]) := upd_same
        have k4 := same_upd (o := .lst [.int (i : Nat)]) nw
        have nwd : wq ≠ d := fun z => by
          obtain ⟨kvs, e, _⟩ := dm3
          rw [z, e] at nw; cases nw
        have nwH : H wq = none := sm3.free nw
        have dm4 := dm3.same k4
        have sm4 := sm3.trans k4
        generalize upd H3 wq (.lst [.int (i : Nat)]) = H4 at *
        refine ⟨fun k σ H' => ∃ y4 y5 y6 m' wl Fu, σ = [some (.ref p), some (.ref d), some (.int (i : Nat)), some (.ref wq), y4, y5, y6] ∧ Same H H' ∧ DM H' d qs.length m' ∧ PmM m' ∧ H' wq = some (.lst (wl.map fun x : Nat => V.int x)) ∧ (∀ x ∈ wl, x < qs.length ∧ ∃ u, m' x = some u) ∧ k = wl.length + 2 * un qs.length m' ∧ k < Fu ∧ Fu ≤ 2 * qs.length + 2 ∧
          waitF L Fu m' wl = waitF L (2 * qs.length + 2) (m.put i 1) [i], ⟨_, y4, y5, y6, m.put i 1, [i], _, rfl, sm4, dm4, pmm.put (.inl rfl), hw, fun x hx => ?_, rfl, ?_, Nat.le_refl _, rfl⟩, fun k σ H5 hW => ?_⟩
        · rw [List.mem_singleton.mp hx]
          exact ⟨hi, 1, by unfold Mp.put; rw [if_pos rfl]⟩
        · have := un_put hm (t := 1) hi
          have := un_le qs.length m
          show 1 + _ < _
          omega
        · obtain ⟨y4, y5, y6, m', wl, Fu, rfl, sm5, dm5, pm5, hw5, wok, rfl, kF, F100, ew⟩ := hW
          refine ⟨_, rfl, _, .inl ⟨_, sq_lst hw5, rfl⟩, ?_⟩
          obtain ⟨Fu, rfl⟩ : ∃ F0, Fu = F0 + 1 := ⟨Fu - 1, by omega⟩
          rcases List.eq_nil_or_concat wl with rfl | ⟨ws, a, rfl⟩
          · refine iteF ⟨_, _, _, _, _, m', rfl, sm5, dm5, pm5, ?_⟩
            rw [allF, ha]
            dsimp only
            rw [hm, if_neg (by decide), ← ew]; rfl
          · rw [List.concat_eq_append] at *
            have tr : (!((ws ++ [a]).map fun x : Nat => V.int x).isEmpty) = true := by cases ws <;> rfl
            rw [tr]
            refine iteT ?_
            refine ⟨fun σ' H' => ∃ k', k' < (ws ++ [a]).length + 2 * un qs.length m' ∧ _, fun _ _ z => z, ?_⟩
            obtain ⟨aN, ta, hta⟩ := wok a (List.mem_append_right _ (List.mem_singleton.mpr rfl))
            have pta := pm5 a ta hta
            have ew2 : waitF L (Fu + 1) m' (ws ++ [a]) = match linkF ta (m', ws) (L a) with
              | none => none
              | some s => waitF L Fu s.1 s.2 := by
              rw [waitF, List.getLast?_append, List.getLast?_singleton, List.dropLast_concat]
              dsimp only [Option.some_or]
              rw [hta]; rfl
            rw [ew2] at ew
            have em : (ws ++ [a]).map (fun x : Nat => V.int x) = ws.map (fun x : Nat => V.int x) ++ [.int (a : Nat)] := by rw [List.map_append]; rfl
            rw [em] at hw5
            refine ⟨_, rfl, .inl ⟨rfl, _, sq_lst hw5⟩, wq, _, .int (a : Nat), rfl, rfl, hw5, ?_, ?_⟩
            · rw [List.length_append, List.length_singleton, Nat.add_sub_cancel, List.getElem?_append_right (Nat.le_refl _), Nat.sub_self]; rfl
            rw [List.dropLast_concat]
            have sm6 := same_at (o := .lst (ws.map fun x : Nat => V.int x)) sm5 nwH
            have hw6 : upd H5 wq (.lst (ws.map fun x : Nat => V.int x)) wq = some (.lst (ws.map fun x : Nat => V.int x)) := upd_same
            have dm6 : DM (upd H5 wq (.lst (ws.map fun x : Nat => V.int x))) d qs.length m' := dm5.off (upd_ne nwd.symm)
            generalize upd H5 wq (.lst (ws.map fun x : Nat => V.int x)) = H6 at *
            have hqa : qs[a]? = some (qs[a]'aN) := List.getElem?_eq_getElem aN
            obtain ⟨us, hus, al⟩ := ll.it a _ hqa
            generalize qs[a]'aN = qa at *
            have lal := al.len
            refine ⟨_, rfl, _, rfl, p, _, (a : Nat), .ref qa, rfl, rfl, sq_lst (sm6 _ _ ll.at_), atI_nat (by rw [List.getElem?_map, hqa]; rfl), qa, rfl, ⟨_, sq_lst (sm6 _ _ hus)⟩, ?_⟩
            refine for_list (K := K) (a := qa) (xs := us) (fun j σ H' => ∃ y5 y6 m2 wl2, σ = [some (.ref p), some (.ref d), some (.int (i : Nat)), some (.ref wq), some (.int (a : Nat)), y5, y6] ∧ Same H H' ∧ DM H' d qs.length m2 ∧ PmM m2 ∧ H' wq = some (.lst (wl2.map fun x : Nat => V.int x)) ∧ (∀ x ∈ wl2, x < qs.length ∧ ∃ u, m2 x = some u) ∧
              linkF ta (m2, wl2) ((L a).drop j) = linkF ta (m', ws) (L a) ∧ wl2.length + 2 * un qs.length m2 ≤ ws.length + 2 * un qs.length m' ∧ m2 a = some ta)
              ⟨_, _, m', ws, rfl, sm6, dm6, pm5, hw6, fun x hx => wok x (List.mem_append_left _ hx), rfl, Nat.le_refl _, hta⟩ (fun j σ H' _ h => by obtain ⟨_, _, _, _, _, s, _⟩ := h; exact sq_lst (s _ _ hus)) (fun j v σ H7 hv h => ?_) (fun σ H7 h => ?_)
            · obtain ⟨y5, y6, m2, wl2, rfl, sm7, dm7, pm7, hw7, wok7, el, ml, ha2⟩ := h
              obtain ⟨x, hx, px, rfl, hpx⟩ := al.at_ hv
              obtain ⟨xN, xP⟩ := ok a x (List.mem_of_getElem? hx)
              have dj : (L a).drop j = x :: (L a).drop (j + 1) := by
                obtain ⟨lj, e⟩ := List.getElem?_eq_some_iff.mp hx
                rw [List.drop_eq_getElem_cons lj, e]
              rw [dj, linkF] at el
              dsimp only at el
              have bta : -1 ≤ ta ∧ ta ≤ 1 := by rcases pta with rfl | rfl <;> decide
              refine ⟨px, _, rfl, sq_tup (sm7 _ _ hpx), rfl, _, _, rfl, _, _, rfl, rfl, ?_⟩
              refine ⟨_, rfl, _, rfl, d, _, rfl, dm7.get x.1, _, rfl, ?_⟩
              cases hm2 : m2 x.1 with
              | none =>
                rw [hm2] at el
                refine iteT ?_
                have g := dm7.get a
                rw [ha2] at g
                obtain ⟨H8, dp, dm8, off8⟩ := dm7.put xN hm2 (by omega) (ta * x.2)
                have hw8 := (off8 wq nwd).trans hw7
                have sm8 : Same H H8 := fun b o e => (off8 b (fun z => by rw [z, nd2] at e; cases e)).trans (sm7 b o e)
                have u8 := un_put hm2 (t := ta * x.2) xN
                have lw : wl2.length ≤ 400 := by have := un_le qs.length m'; rw [List.length_append, List.length_singleton] at kF; have := un_le qs.length m2; omega
                refine ⟨_, rfl, _, rfl, d, .int ta, rfl, g, _, rfl, _, _, rfl, rfl, .inl ⟨by omega, by omega⟩, _, rfl, _, rfl, d, H8, rfl, dp, ?_⟩
                refine ⟨_, rfl, .inl ⟨rfl, _, sq_lst hw8⟩, _, rfl, wq, _, _, rfl, rfl, hw8, small1000 (by rw [List.length_map]; omega), ?_⟩
                refine ⟨_, _, m2.put x.1 (ta * x.2), wl2 ++ [x.1], rfl, same_at sm8 nwH, dm8.off (upd_ne nwd.symm), pm7.put (pm_mul pta xP), ?_, fun y hy => ?_, el, ?_, ?_⟩
                · rw [upd_same, List.map_append]; rfl
                · rcases List.mem_append.mp hy with hy | hy
                  · obtain ⟨y1, u, y2⟩ := wok7 y hy
                    refine ⟨y1, ?_⟩
                    unfold Mp.put
                    split
                    · exact ⟨_, rfl⟩
                    · exact ⟨u, y2⟩
                  · rw [List.mem_singleton.mp hy]
                    exact ⟨xN, _, by unfold Mp.put; rw [if_pos rfl]⟩
                · rw [List.length_append, List.length_singleton]; omega
                · unfold Mp.put
                  rw [if_neg (fun z => by rw [← z, ha2] at hm2; cases hm2), ha2]
              | some u =>
                rw [hm2] at el
                refine iteF ?_
                have g := dm7.get a
                rw [ha2] at g
                have g2 := dm7.get x.1
                rw [hm2] at g2
                dsimp only at el
                refine ⟨_, rfl, _, rfl, d, .int u, rfl, g2, _, rfl, _, rfl, d, .int ta, rfl, g, _, rfl, _, _, rfl, rfl, .inl ⟨by omega, by omega⟩, rfl, _, rfl, ite2 (fun c => ?_) (fun c => ?_)⟩
                · have c : ¬ u = ta * x.2 := fun z => by rw [z] at c; simp at c
                  rw [if_neg c] at el
                  rw [← el] at ew
                  refine fin0 _ sm7 ?_
                  have e2 : allF L (2 * qs.length + 2) (i + 1) = none := by
                    rw [allF, ha]
                    dsimp only
                    rw [hm, if_neg (by decide), ← ew]
                  unfold alongF
                  rw [allF_none e2 (by omega)]; rfl
                · have c : u = ta * x.2 := by simpa using c
                  rw [if_pos c] at el
                  exact ⟨_, _, m2, wl2, rfl, sm7, dm7, pm7, hw7, wok7, el, ml, ha2⟩
            · obtain ⟨y5, y6, m2, wl2, rfl, sm7, dm7, pm7, hw7, wok7, el, ml, ha2⟩ := h
              rw [lal, List.drop_length] at el
              refine ⟨_, ?_, _, y5, y6, m2, wl2, Fu, rfl, sm7, dm7, pm7, hw7, wok7, rfl, ?_, by omega, ?_⟩
              · rw [List.length_append, List.length_singleton]; omega
              · rw [List.length_append, List.length_singleton] at kF; omega
              · rw [← el, linkF] at ew
                exact ew
    · obtain ⟨y2, y3, y4, y5, y6, m, rfl, sm, dm, pmm, ha⟩ := hI
      rw [Int.toNat_natCast] at ha
      have eA : alongF L qs.length = some ((List.range qs.length).map fun k => (m k).getD 0) := by
        unfold alongF
        rw [ha]; rfl
      refine ⟨_, rfl, p, _, rfl, .inl (sq_lst (sm _ _ ll.at_)), _, rfl, by rw [List.length_map]; omega, by rw [List.length_map]; omega, ?_⟩
      rw [List.length_map]
      refine fun D nD => lc_range (lo := 0) (n := ((qs.length : Nat) : Int).toNat) (fun i H' => H' D = some (.lst (((List.range i).map fun k => (m k).getD 0).map V.int)) ∧ Same H H' ∧ DM H' d qs.length m) ⟨upd_same, sm.trans (same_upd nD), dm.same (same_upd nD)⟩ (fun i H3 hi hI => ?_) (fun H3 hI => ?_)
      · obtain ⟨hD, sm3, dm3⟩ := hI
        rw [Int.toNat_natCast] at hi
        rw [show ((0 : Int) + (i : Nat)) = (i : Int) by omega]
        obtain ⟨u, hu⟩ := allF_set ha i hi
        have g := dm3.get i
        rw [hu] at g
        have nDd : d ≠ D := fun z => by
          obtain ⟨kvs, e, _⟩ := dm
          rw [z, nD] at e; cases e
        refine ⟨rfl, _, rfl, _, rfl, d, .int u, rfl, g, _, hD, small1000 (by rw [List.length_map, List.length_map, List.length_range]; omega), ?_, same_at sm3 (sm.free nD), dm3.off (upd_ne nDd)⟩
        rw [upd_same, List.range_succ, List.map_append, List.map_append, List.map_cons, hu]; rfl
      · obtain ⟨hD, sm3, dm3⟩ := hI
        rw [Int.toNat_natCast] at hD
        exact ⟨D, _, rfl, .inl ⟨sq_lst hD, fun q nq => fin1 _ q _ (sm3.trans (same_upd nq)) eA upd_same⟩⟩
end
end M57

namespace M57
open PySem PySem.Spec PyProof.Rows L2 SX Own Gd
open C8 (Cal pe_c pe_gc pe_mk Mak pss_cut)
/-! ### links of wishes -/
def nzl (r : Row) : List Nat := nzi r.am r.am.length
def cf (r : Row) (k : Nat) : Int := r.am.getD k 0
def okR (r : Row) : Bool := decide ((nzl r).length ≤ 2) && (nzl r).all fun k => decide ((cf r k).natAbs = 1)
def okW : Wish → Bool
  | .sum r => okR r
  | _ => false
def lkR (r : Row) : Option (Nat × Nat × Int) := match nzl r with
  | [a, b] => some (a, b, -cf r a * cf r b)
  | _ => none
def lkW : Wish → Option (Nat × Nat × Int)
  | .sum r => lkR r
  | _ => none
def entF (o : Option (Nat × Nat × Int)) (j : Nat) : List Lk := match o with
  | some (a, b, p) => if j = a then [(b, p)] else if j = b then [(a, p)] else []
  | none => []
def lnk (wl : List Wish) (j : Nat) : List Lk := wl.flatMap fun x => entF (lkW x) j
def turnsF (wl : List Wish) (n : Nat) : Option (List Int) := if wl.all okW then alongF (lnk wl) n else none
theorem lnk_take {wl : List Wish} {i : Nat} {x : Wish} (h : wl[i]? = some x) (j : Nat) : lnk (wl.take (i + 1)) j = lnk (wl.take i) j ++ entF (lkW x) j := by
  unfold lnk
  rw [take_one h, List.flatMap_append]
  simp
theorem entF_len (o : Option (Nat × Nat × Int)) (j : Nat) : (entF o j).length ≤ 1 := by
  unfold entF
  split
  · split
    · exact Nat.le_refl _
    · split
      · exact Nat.le_refl _
      · exact Nat.zero_le _
  · exact Nat.zero_le _
theorem lnk_len (j : Nat) : ∀ wl : List Wish, (lnk wl j).length ≤ wl.length
  | [] => Nat.le_refl _
  | x :: wl => by
    have := lnk_len j wl
    have := entF_len (lkW x) j
    show (entF (lkW x) j ++ lnk wl j).length ≤ wl.length + 1
    rw [List.length_append]
    omega
theorem nzl_lt {r : Row} {k : Nat} (h : k ∈ nzl r) : k < r.am.length := List.mem_range.mp (List.mem_filter.mp h).1
theorem nzl_inc (r : Row) : (nzl r).Pairwise (· < ·) := List.Pairwise.filter _ List.pairwise_lt_range
theorem lk_two {r : Row} {a b : Nat} (h : nzl r = [a, b]) : lkR r = some (a, b, -cf r a * cf r b) ∧ a < b ∧ b < r.am.length := by
  refine ⟨by unfold lkR; rw [h], ?_, nzl_lt (by rw [h]; simp)⟩
  have := nzl_inc r
  rw [h] at this
  simpa using this
theorem lk_not {r : Row} (h : (nzl r).length ≠ 2) : lkR r = none := by
  unfold lkR
  split
  · rename_i e
    rw [e] at h
    exact absurd rfl h
  · rfl
theorem pm_of {c : Int} (h : c.natAbs = 1) : c = 1 ∨ c = -1 := by omega
theorem okL {wl : List Wish} {n : Nat} (rok : ∀ r, Wish.sum r ∈ wl → r.am.length = n ∧ Sm 1000 r.am) (all : wl.all okW = true) : OkL n (lnk wl) := by
  intro j x hx
  obtain ⟨z, hz, hx⟩ := List.mem_flatMap.mp hx
  have oz := List.all_eq_true.mp all z hz
  cases z with
  | sum r =>
    obtain ⟨ra, _⟩ := rok r hz
    by_cases l2 : (nzl r).length = 2
    · obtain ⟨a, b, e⟩ : ∃ a b, nzl r = [a, b] := by
        match h : nzl r, l2 with
        | [a, b], _ => exact ⟨a, b, rfl⟩
      obtain ⟨e1, e2, e3⟩ := lk_two e
      have oz : okR r = true := oz
      unfold okR at oz
      rw [e] at oz
      simp only [List.all_cons, List.all_nil, Bool.and_true, Bool.and_eq_true, decide_eq_true_eq] at oz
      have pp := pm_mul (show -cf r a = 1 ∨ -cf r a = -1 by have := oz.2.1; omega) (pm_of oz.2.2)
      have hx : x ∈ entF (lkR r) j := hx
      rw [e1] at hx
      unfold entF at hx
      dsimp only at hx
      split at hx
      · rw [List.mem_singleton.mp hx]
        exact ⟨by show b < n; omega, pp⟩
      · split at hx
        · rw [List.mem_singleton.mp hx]
          exact ⟨by show a < n; omega, pp⟩
        · cases hx
    · have hx : x ∈ entF (lkR r) j := hx
      rw [lk_not l2] at hx
      cases hx
  | unlike a => cases oz
  | bench js => cases oz
  | table a ls => cases oz
structure LM (H : Hp) (l : Addr) (qs : List Addr) (L : Nat → List Lk) : Prop where
  ll : LL H l qs L
  nd : qs.Nodup
  ne : l ∉ qs
theorem LM.same {H H' : Hp} {p : Addr} {qs : List Addr} {L : Nat → List Lk} (h : LM H p qs L) (s : Same H H') : LM H' p qs L := ⟨h.ll.same s, h.nd, h.ne⟩
theorem LM.app {H : Hp} {l : Addr} {qs : List Addr} {L : Nat → List Lk} (h : LM H l qs L) {a : Nat} {q t : Addr} {us : List V} {x : Lk} (e : qs[a]? = some q) (hq : H q = some (.lst us)) (ht : EP H (.ref t) x) :
    LM (upd H q (.lst (us ++ [.ref t]))) l qs (fun j => if j = a then L j ++ [x] else L j) := by
  have mq : q ∈ qs := List.mem_of_getElem? e
  have nq : l ≠ q := fun z => h.ne (z ▸ mq)
  refine ⟨⟨by rw [upd_ne nq]; exact h.ll.at_, fun j p ep => ?_⟩, h.nd, h.ne⟩
  obtain ⟨vs, h1, h2⟩ := h.ll.it j p ep
  have tk : TK H (upd H q (.lst (us ++ [.ref t]))) := TK.put hq
  by_cases ej : j = a
  · subst ej
    obtain rfl : p = q := Option.some.inj (ep.symm.trans e)
    rw [hq] at h1
    cases h1
    rw [if_pos rfl]
    exact ⟨_, upd_same, (h2.mono fun v y k => k.tk tk).app (ht.tk tk)⟩
  · have np : p ≠ q := fun z => by
      subst z
      exact ej ((List.getElem?_inj (List.getElem?_eq_some_iff.mp ep).1 h.nd).mp (ep.trans e.symm))
    rw [if_neg ej]
    exact ⟨vs, by rw [upd_ne np]; exact h1, h2.mono fun v y k => k.tk tk⟩
section
variable {P : Program} {w : World} {K : PySem.W.Frag} {mg : Str → Option Value} {base : Heap} {aW aT : Addr} {es : Array DictEntry} {nn : Nat}
abbrev s_turns_of : Stmt := topS 40
abbrev n_turns_of : List Str := ["task", "linked", "wish", "sizes", "one", "other", "_", "place", "times"]
theorem sc_turns_of : FnScope n_turns_of ["task"] (defScope s_turns_of) := ⟨rfl, rfl, rfl, by decide +kernel, rfl, by decide +kernel, by decide +kernel⟩
def spTurns (C : Addr) : Sp := fun vs H Q _ => ∃ (tv : V) (ul : List Unk) (wl : List Wish) (goal : List Int), vs = [tv] ∧ TaskV C H tv ul wl goal ∧ wl.length ≤ 100 ∧ ul.length ≤ 100 ∧ (∀ r, Wish.sum r ∈ wl → r.am.length = ul.length ∧ Sm 1000 r.am) ∧
  (∀ H', Same H H' → turnsF wl ul.length = none → Q .non H') ∧ ∀ H' q ts, Same H H' → turnsF wl ul.length = some ts → H' q = some (tI ts) → Q (.ref q) H'
theorem ok_turns_of {f C : Addr} {fd : FuncData} (F : Fun K "turns_of" "turns_of" s_turns_of f fd) (T : Txt K mg w aW aT es nn) (cc : CC K C) (c_named_by : Cal P w K mg base 1 "named_by" spNamed []) (c_turns_along : Cal P w K mg base 1 "_turns_along" spAlong []) : FnOk P w K mg base CX0 2 f fd ["task"] (spTurns C) := by
  refine F.ok sc_turns_of (fun vs H Q E h => ?_) (fun cdv A outer s H vs Q E hr h => ?_)
  · obtain ⟨tv, ul, wl, goal, rfl, _⟩ := h
    rfl
  · obtain ⟨tv, ul, wl, goal, rfl, ⟨x, dx, pu, pw, pg, us, ws, rfl, hx, hpu, uv, hpw, wv, hpg⟩, w100, u100, rok, fin0, fin1⟩ := h
    have lu := uv.len
    have lw := wv.len
    refine ⟨_, (pss_cons (ps_setLc (i := 1) (own := [("_", 6)]) rfl sc_turns_of.nd rfl rfl (sw_true rfl rfl rfl (by decide +kernel)) (pi_tup (pe_fld (pv 0) (by rfl))) (blkOk_by (N := n_turns_of) (sc := defScope s_turns_of) (by decide +kernel)) (fun _ _ _ _ _ => (pg_name (i := 6) sc_turns_of.nd rfl (.inl rfl))) (fun _ _ _ _ _ => pts_nil) (fun _ _ _ _ _ => (pe_lst pa_nil)))
      (pss_cons (ps_for PassesOwn.never rfl (pi_tup (pe_fld (pv 0) (by rfl))) (pg_name (i := 2) sc_turns_of.nd rfl (.inr rfl)) (pss_cons (ps_if (PW.pt (pw_or (pt_cmpR op_ne (pe_ix ix_tup (pv 2) pe_int (fun _ _ => rfl)) pe_str (nomark _)) (pw_or1 (pt_cmpR op_gt (pe_callB call_len_seq (by rfl) T.b_len (by decide +kernel) (pa_cons (pe_c c_named_by hr (by decide) (by rfl) (pa_cons (pv 2) pa_nil)) pa_nil)) pe_int (nomark _))))) (pss_one (ps_ret pe_non)) pss_nil)
        (pss_cons (ps_setLc (i := 3) (own := [("place", 7)]) rfl sc_turns_of.nd rfl rfl (sw_true rfl rfl rfl (by decide +kernel)) (pi_tup (pe_c c_named_by hr (by decide) (by rfl) (pa_cons (pv 2) pa_nil))) (blkOk_by (N := n_turns_of) (sc := defScope s_turns_of) (by decide +kernel)) (fun _ _ _ _ _ => (pg_name (i := 7) sc_turns_of.nd rfl (.inl rfl))) (fun _ _ _ _ _ => pts_nil) (fun _ _ _ _ _ => (pe_ix (r := rIxT K) ix_tup (pe_ix (r := rIxT K) ix_tup (pv 2) pe_int (fun _ _ => rfl)) (pv 7) (fun _ _ => rfl))))
        (pss_cons (ps_if (pt_val (pe_callB (cr_any rfl) (by rfl) T.b_any (by decide +kernel) (pa_cons (pe_lc (own := [("times", 8)]) rfl sc_turns_of.nd (pi_list (pv 3)) (blkOk_by (N := n_turns_of) (sc := defScope s_turns_of) (by decide +kernel)) (fun _ _ _ _ _ => (pg_name (i := 8) sc_turns_of.nd rfl (.inl rfl))) (fun _ _ _ _ _ => pts_nil) (fun _ _ _ _ _ => (pe_cmpR op_ne (pe_callB call_abs (by rfl) T.b_abs (by decide +kernel) (pa_cons (pv 8) pa_nil)) pe_int (nomark _)))) pa_nil))) (pss_one (ps_ret pe_non)) pss_nil)
        (pss_one (ps_if (pt_cmpR op_eq (pe_callB call_len_seq (by rfl) T.b_len (by decide +kernel) (pa_cons (pv 3) pa_nil)) pe_int (nomark _)) (pss_cons (ps_asg (pe_c c_named_by hr (by decide) (by rfl) (pa_cons (pv 2) pa_nil)) (pg_tup rfl (pgs_cons (pg_name (i := 4) sc_turns_of.nd rfl (.inl rfl)) (pgs_cons (pg_name (i := 5) sc_turns_of.nd rfl (.inl rfl)) pgs_nil))))
          (pss_cons (ps_expr (pe_bm PySem.F.plainAttrs_list PySem.F.slot_list_append PySem.F.type_list_append mt_append (pe_ix ix_list (pv 1) (pv 4) (fun _ _ => rfl)) (pa_cons (pe_tup (pa_cons (pv 5) (pa_cons (pe_op op_mul (pe_un un_neg (pe_ix ix_list (pv 3) pe_int (fun _ _ => rfl))) (pe_ix ix_list (pv 3) pe_int (fun _ _ => rfl))) pa_nil))) pa_nil)))
          (pss_one (ps_expr (pe_bm PySem.F.plainAttrs_list PySem.F.slot_list_append PySem.F.type_list_append mt_append (pe_ix ix_list (pv 1) (pv 5) (fun _ _ => rfl)) (pa_cons (pe_tup (pa_cons (pv 4) (pa_cons (pe_op op_mul (pe_un un_neg (pe_ix ix_list (pv 3) pe_int (fun _ _ => rfl))) (pe_ix ix_list (pv 3) pe_int (fun _ _ => rfl))) pa_nil))) pa_nil)))))) pss_nil))))))
      (pss_one (ps_ret (pe_c c_turns_along hr (by decide) (by rfl) (pa_cons (pv 1) pa_nil)))))), ?_⟩
    refine ⟨_, rfl, x, C, dx, _, _, rfl, hx, cc.cl, cc.nu, lk_u _ _ _, pu, rfl, ⟨_, sq_tup hpu⟩, fun D nD => ?_⟩
    refine lc_tup (K := K) (a := pu) (xs := us) (fun i H' => ∃ qs : List Addr, H' D = some (.lst (qs.map V.ref)) ∧ Same H H' ∧ qs.length = i ∧ qs.Nodup ∧ ∀ q ∈ qs, q ≠ D ∧ H' q = some (.lst []) ∧ H q = none) ⟨[], upd_same, same_upd nD, rfl, List.nodup_nil, by simp⟩ (fun i H' _ h => by obtain ⟨_, _, s, _⟩ := h; exact sq_tup (s _ _ hpu)) ?_ ?_
    · rintro i v H2 hv ⟨qs, hD, sm, ql, qn, qa⟩
      have li : i < us.length := (List.getElem?_eq_some_iff.mp hv).1
      refine ⟨rfl, nil_ok, fun q nq => ⟨_, same_upd nq _ _ hD, small1000 (by rw [List.length_map]; omega), qs ++ [q], ?_, same_at (sm.trans (same_upd nq)) nD, ?_, ?_, ?_⟩⟩
      · rw [upd_same, List.map_append]; rfl
      · rw [List.length_append, ql]; rfl
      · rw [List.nodup_append]
        refine ⟨qn, by simp, fun a ha b hb => ?_⟩
        rw [List.mem_singleton.mp hb]
        exact ne_of_none (qa a ha).2.1 nq
      · intro a ha
        have nqD : q ≠ D := (ne_of_none hD nq).symm
        rcases List.mem_append.mp ha with ha | ha
        · obtain ⟨a1, a2, a3⟩ := qa a ha
          exact ⟨a1, by rw [upd_ne a1]; exact same_upd nq _ _ a2, a3⟩
        · rw [List.mem_singleton.mp ha]
          exact ⟨nqD, by rw [upd_ne nqD]; exact upd_same, sm.free nq⟩
    · rintro H2 ⟨qs, hD, sm, ql, qn, qa⟩
      have lm0 : LM H2 D qs (lnk (wl.take 0)) := ⟨⟨hD, fun j q e => ⟨[], (qa q (List.mem_of_getElem? e)).2.1, .nil⟩⟩, qn, fun z => (qa D z).1 rfl⟩
      have new : ∀ q ∈ D :: qs, H q = none := fun q hq => by
        rcases List.mem_cons.mp hq with rfl | hq
        · exact nD
        · exact (qa q hq).2.2
      have noT : ∀ {i : Nat} {z : Wish}, wl[i]? = some z → okW z = false → turnsF wl ul.length = none := fun h e => by
        unfold turnsF
        rw [if_neg]
        intro h2
        have := List.all_eq_true.mp h2 _ (List.mem_of_getElem? h)
        rw [e] at this
        cases this
      refine ⟨_, rfl, x, C, dx, _, _, rfl, sm _ _ hx, cc.cl, cc.nw, lk_w _ _ _, pw, rfl, ⟨_, sq_tup (sm _ _ hpw)⟩, for_tup (K := K) (a := pw) (xs := ws) (fun i σ H' => ∃ y2 y3 y4 y5 y6 y7 y8, σ = [some (.ref x), some (.ref D), y2, y3, y4, y5, y6, y7, y8] ∧ Same H H' ∧ LM H' D qs (lnk (wl.take i)) ∧ (wl.take i).all okW = true)
        ⟨none, none, none, none, none, none, none, rfl, sm, lm0, rfl⟩ (fun i σ H' _ h => by obtain ⟨_, _, _, _, _, _, _, _, s, _⟩ := h; exact sq_tup (s _ _ hpw)) (fun i v σ H3 hv h => ?_) (fun σ H3 h => ?_)⟩
      · obtain ⟨y2, y3, y4, y5, y6, y7, y8, rfl, sm3, lm3, all3⟩ := h
        obtain ⟨wi, hwi, wvi⟩ := wv.at_ hv
        have wv3 := wvi.same sm3
        have lt := fun j => lnk_take hwi j
        have at1 : (wl.take (i + 1)).all okW = okW wi := by rw [take_one hwi, List.all_append, all3]; simp
        cases wi with
        | sum r =>
          obtain ⟨ram, rsm⟩ := rok r (List.mem_of_getElem? hwi)
          have rv := wv3
          obtain ⟨pw1, qa, rfl, hp1, hqa⟩ := wv3
          refine ⟨_, rfl, pw1, _, 0, _, rfl, rfl, sq_tup hp1, rfl, rfl, _, rfl, iteF ?_⟩
          refine ⟨_, rfl, .ref pw1, r, rfl, rv, by omega, fun H4 p4 s4 hp4 => ⟨p4, _, rfl, .inr (sq_tup hp4), _, _, rfl, rfl, _, rfl, ite2 (fun c => ?_) (fun c => ?_)⟩⟩
          · have c : (2 : Int) < ((nzp r.am).map V.int).length := of_decide_eq_true c
            refine fin0 _ (sm3.trans s4) (noT hwi ?_)
            unfold nzp at c
            rw [List.length_map, List.length_map] at c
            show okR r = false
            unfold okR
            rw [decide_eq_false (show ¬ (nzl r).length ≤ 2 by unfold nzl; omega), Bool.false_and]
          · have c : ¬ (2 : Int) < ((nzp r.am).map V.int).length := fun z => c (decide_eq_true z)
            have c : (nzl r).length ≤ 2 := by
              unfold nzp at c
              rw [List.length_map, List.length_map] at c
              unfold nzl
              omega
            have rv4 := rv.same s4
            refine ⟨_, rfl, .ref pw1, r, rfl, rv4, by omega, fun H5 p5 s5 hp5 => ⟨p5, rfl, ⟨_, sq_tup hp5⟩, fun D2 nD2 => ?_⟩⟩
            have s45 := s4.trans s5
            refine lc_tup (K := K) (a := p5) (xs := (nzp r.am).map V.int) (fun i H' => H' D2 = some (.lst ((((nzl r).take i).map (cf r)).map V.int)) ∧ Same H5 H') ⟨upd_same, same_upd nD2⟩ (fun i H' _ h => sq_tup (h.2 _ _ hp5)) ?_ ?_
            · rintro j y H6 hy ⟨hD2, s6⟩
              obtain ⟨c2, hc2, rfl⟩ := at_map hy
              unfold nzp at hc2
              rw [List.getElem?_map] at hc2
              obtain ⟨k, hk, rfl⟩ := Option.map_eq_some_iff.mp hc2
              have hk : (nzl r)[j]? = some k := hk
              have kl := nzl_lt (List.mem_of_getElem? hk)
              have hck : r.am[k]? = some (cf r k) := by
                unfold cf
                rw [List.getD_eq_getElem?_getD, List.getElem?_eq_getElem kl]; rfl
              have s456 := s45.trans s6
              refine ⟨rfl, _, rfl, pw1, _, 1, _, rfl, rfl, sq_tup (s456 _ _ hp1), rfl, _, rfl, qa, _, _, _, rfl, rfl, sq_tup (s456 _ _ hqa), atI_nat (by rw [List.getElem?_map, hck]; rfl), _, hD2, small1000 (by rw [List.length_map, List.length_map, List.length_take]; omega), ?_, same_at s6 nD2⟩
              rw [upd_same, take_one hk, List.map_append, List.map_append]; rfl
            rintro H6 ⟨hD2, s6⟩
            have nl : ((nzp r.am).map V.int).length = (nzl r).length := by
              unfold nzp nzl
              rw [List.length_map, List.length_map]
            rw [nl, List.take_length] at hD2
            have s36 := s45.trans s6
            refine ⟨_, rfl, D2, rfl, ⟨_, sq_lst hD2⟩, fun D3 nD3 => ?_⟩
            refine lc_list (K := K) (a := D2) (xs := ((nzl r).map (cf r)).map V.int) (fun i H' => H' D3 = some (.lst ((((nzl r).take i).map fun k => decide ((cf r k).natAbs ≠ 1)).map V.bl)) ∧ Same H6 H') ⟨upd_same, same_upd nD3⟩ (fun i H' _ h => sq_lst (h.2 _ _ hD2)) ?_ ?_
            · rintro j y H7 hy ⟨hD3, s7⟩
              obtain ⟨c2, hc2, rfl⟩ := at_map hy
              rw [List.getElem?_map] at hc2
              obtain ⟨k, hk, rfl⟩ := Option.map_eq_some_iff.mp hc2
              refine ⟨rfl, _, rfl, _, rfl, rfl, _, hD3, small1000 (by rw [List.length_map, List.length_map, List.length_take]; omega), ?_, same_at s7 nD3⟩
              rw [upd_same, take_one hk, List.map_append, List.map_append]
              have e1 : (if cf r k < 0 then -cf r k else cf r k) = ((cf r k).natAbs : Int) := by split <;> omega
              have e2 : (!decide (V.int ((cf r k).natAbs : Int) = V.int 1)) = decide ((cf r k).natAbs ≠ 1) := by
                by_cases z : (cf r k).natAbs = 1
                · rw [z]; rfl
                · rw [decide_eq_true z, decide_eq_false (fun y => z (by have := V.int.inj y; omega))]; rfl
              rw [e1, e2]; rfl
            rintro H7 ⟨hD3, s7⟩
            rw [List.length_map, List.length_map, List.take_length] at hD3
            have s37 := s36.trans s7
            refine ⟨D3, _, rfl, sq_lst hD3, ?_⟩
            refine ⟨_, rfl, ?_⟩
            cases hb : ((nzl r).map (fun k => decide ((cf r k).natAbs ≠ 1))).any id with
            | true =>
              refine iteT (fin0 _ (sm3.trans s37) (noT hwi ?_))
              obtain ⟨b, hb1, hb2⟩ := List.any_eq_true.mp hb
              obtain ⟨k, hk, rfl⟩ := List.mem_map.mp hb1
              have hb2 : (cf r k).natAbs ≠ 1 := of_decide_eq_true hb2
              show okR r = false
              unfold okR
              rw [Bool.and_eq_false_iff]
              right
              rw [List.all_eq_false]
              exact ⟨k, hk, by simpa using hb2⟩
            | false =>
              have ones : ∀ k ∈ nzl r, (cf r k).natAbs = 1 := fun k hk => by
                have := List.any_eq_false.mp hb _ (List.mem_map.mpr ⟨k, hk, rfl⟩)
                simpa using this
              have okr : okW (.sum r) = true := by
                show okR r = true
                unfold okR
                rw [decide_eq_true c, Bool.true_and, List.all_eq_true]
                exact fun k hk => decide_eq_true (ones k hk)
              rw [okr] at at1
              refine iteF ?_
              have hD27 := s7 _ _ hD2
              refine ⟨_, rfl, D2, _, rfl, .inl (sq_lst hD27), rfl, _, rfl, ite2 (fun l2 => ?_) (fun l2 => ?_)⟩
              · have l2 : (nzl r).length = 2 := by
                  have := V.int.inj (of_decide_eq_true l2)
                  rw [List.length_map, List.length_map] at this
                  omega
                obtain ⟨a, b, hab⟩ : ∃ a b, nzl r = [a, b] := by
                  match h : nzl r, l2 with
                  | [a, b], _ => exact ⟨a, b, rfl⟩
                obtain ⟨elk, ab, bl⟩ := lk_two hab
                have oa := ones a (by rw [hab]; simp)
                have ob := ones b (by rw [hab]; simp)
                rw [hab] at hD27
                have li : i < ws.length := (List.getElem?_eq_some_iff.mp hv).1
                refine ⟨_, rfl, .ref pw1, r, rfl, rv.same s37, by omega, fun H8 p8 s8 hp8 => ?_⟩
                have hp8 : H8 p8 = some (.tup [.int (a : Nat), .int (b : Nat)]) := by
                  rw [hp8]
                  unfold tI nzp
                  rw [show nzi r.am r.am.length = [a, b] from hab]; rfl
                have s38 := s37.trans s8
                have hD28 : H8 D2 = some (.lst [.int (cf r a), .int (cf r b)]) := s8 _ _ hD27
                have lm8 := lm3.same s38
                have lm5 := lm3.same s45
                have h1 : qs[a]? = some (qs[a]'(by omega)) := List.getElem?_eq_getElem (by omega)
                have h2 : qs[b]? = some (qs[b]'(by omega)) := List.getElem?_eq_getElem (by omega)
                generalize qs[a]'(by omega) = q1 at *
                generalize qs[b]'(by omega) = q2 at *
                have n12 : q1 ≠ q2 := fun z => by
                  subst z
                  have := (List.getElem?_inj (List.getElem?_eq_some_iff.mp h1).1 lm3.nd).mp (h1.trans h2.symm)
                  omega
                obtain ⟨us1, hq1, al1⟩ := lm8.ll.it a q1 h1
                have lu1 := al1.len
                have lk1 := lnk_len a (wl.take i)
                rw [List.length_take] at lk1
                obtain ⟨_, h51, _⟩ := lm5.ll.it a q1 h1
                obtain ⟨_, h52, _⟩ := lm5.ll.it b q2 h2
                have nD21 : q1 ≠ D2 := ne_of_none h51 nD2
                have nD22 : q2 ≠ D2 := ne_of_none h52 nD2
                refine ⟨p8, _, rfl, sq_tup hp8, rfl, _, _, rfl, _, _, rfl, rfl, ?_⟩
                refine ⟨_, rfl, _, rfl, D, _, (a : Nat), .ref q1, rfl, rfl, sq_lst lm8.ll.at_, atI_nat (by rw [List.getElem?_map, h1]; rfl), .inl ⟨rfl, _, sq_lst hq1⟩, _, rfl, _, rfl, D2, _, 0, _, rfl, rfl, sq_lst hD28, rfl, _, rfl, _, rfl, D2, _, 1, _, rfl, rfl, sq_lst hD28, rfl, _, _, rfl, rfl, .inl ⟨by omega, by omega⟩, len2, fun t1 nt1 => ?_⟩
                have s9 := same_upd (o := .tup [.int (b : Nat), .int (-cf r a * cf r b)]) nt1
                have ht1 : upd H8 t1 (.tup [.int (b : Nat), .int (-cf r a * cf r b)]) t1 = some (.tup [.int (b : Nat), .int (-cf r a * cf r b)]) := upd_same
                generalize upd H8 t1 (.tup [.int (b : Nat), .int (-cf r a * cf r b)]) = H9 at *
                have hq19 := s9 _ _ hq1
                have lmA := (lm8.same s9).app h1 hq19 ⟨t1, rfl, ht1⟩ (x := (b, -cf r a * cf r b))
                have sA := same_at (o := .lst (us1 ++ [.ref t1])) ((sm3.trans s38).trans s9) (new q1 (.tail _ (List.mem_of_getElem? h1)))
                have hDA : upd H9 q1 (.lst (us1 ++ [.ref t1])) D2 = some (.lst [.int (cf r a), .int (cf r b)]) := by rw [upd_ne nD21.symm]; exact s9 _ _ hD28
                refine ⟨q1, _, _, rfl, rfl, hq19, small1000 (by omega), ?_⟩
                generalize upd H9 q1 (.lst (us1 ++ [.ref t1])) = HA at *
                obtain ⟨us2, hq2, al2⟩ := lmA.ll.it b q2 h2
                have lu2 := al2.len
                rw [if_neg (by omega)] at lu2
                have lk2 := lnk_len b (wl.take i)
                rw [List.length_take] at lk2
                refine ⟨_, rfl, _, rfl, D, _, (b : Nat), .ref q2, rfl, rfl, sq_lst lmA.ll.at_, atI_nat (by rw [List.getElem?_map, h2]; rfl), .inl ⟨rfl, _, sq_lst hq2⟩, _, rfl, _, rfl, D2, _, 0, _, rfl, rfl, sq_lst hDA, rfl, _, rfl, _, rfl, D2, _, 1, _, rfl, rfl, sq_lst hDA, rfl, _, _, rfl, rfl, .inl ⟨by omega, by omega⟩, len2, fun t2 nt2 => ?_⟩
                have sB := same_upd (o := .tup [.int (a : Nat), .int (-cf r a * cf r b)]) nt2
                have ht2 : upd HA t2 (.tup [.int (a : Nat), .int (-cf r a * cf r b)]) t2 = some (.tup [.int (a : Nat), .int (-cf r a * cf r b)]) := upd_same
                generalize upd HA t2 (.tup [.int (a : Nat), .int (-cf r a * cf r b)]) = HB at *
                have hq2B := sB _ _ hq2
                have lmB := (lmA.same sB).app h2 hq2B ⟨t2, rfl, ht2⟩ (x := (a, -cf r a * cf r b))
                refine ⟨q2, _, _, rfl, rfl, hq2B, small1000 (by omega), _, _, _, _, _, _, _, rfl, same_at (sA.trans sB) (new q2 (.tail _ (List.mem_of_getElem? h2))), ?_, at1⟩
                have eL : lnk (wl.take (i + 1)) = fun j => if j = b then (if j = a then lnk (wl.take i) j ++ [(b, -cf r a * cf r b)] else lnk (wl.take i) j) ++ [(a, -cf r a * cf r b)] else if j = a then lnk (wl.take i) j ++ [(b, -cf r a * cf r b)] else lnk (wl.take i) j := funext fun j => by
                  rw [lt j, show lkW (.sum r) = some (a, b, -cf r a * cf r b) from elk]
                  unfold entF
                  dsimp only
                  by_cases ja : j = a
                  · rw [if_pos ja, if_neg (by omega), if_pos ja]
                  · by_cases jb : j = b
                    · rw [if_neg ja, if_pos jb, if_pos jb, if_neg ja]
                    · rw [if_neg ja, if_neg jb, if_neg jb, if_neg ja, List.append_nil]
                rw [eL]
                exact lmB
              · have l2 : (nzl r).length ≠ 2 := fun z => l2 (decide_eq_true (by rw [List.length_map, List.length_map, z]; rfl))
                refine ⟨_, _, _, _, _, _, _, rfl, sm3.trans s37, ?_, at1⟩
                have eL : lnk (wl.take (i + 1)) = lnk (wl.take i) := funext fun j => by
                  rw [lt j, show lkW (.sum r) = none from lk_not l2]; exact List.append_nil _
                rw [eL]
                exact lm3.same s37
        | unlike a =>
          obtain ⟨pw1, u, rfl, hp1, _⟩ := wv3
          exact ⟨_, rfl, pw1, _, 0, _, rfl, rfl, sq_tup hp1, rfl, rfl, _, rfl, iteT (fin0 _ sm3 (noT hwi rfl))⟩
        | bench js =>
          obtain ⟨pw1, u, rfl, hp1, _⟩ := wv3
          exact ⟨_, rfl, pw1, _, 0, _, rfl, rfl, sq_tup hp1, rfl, rfl, _, rfl, iteT (fin0 _ sm3 (noT hwi rfl))⟩
        | table a ls =>
          obtain ⟨pw1, u, t, rfl, hp1, _⟩ := wv3
          exact ⟨_, rfl, pw1, _, 0, _, rfl, rfl, sq_tup hp1, rfl, rfl, _, rfl, iteT (fin0 _ sm3 (noT hwi rfl))⟩
      · obtain ⟨y2, y3, y4, y5, y6, y7, y8, rfl, sm3, lm3, all3⟩ := h
        rw [lw, List.take_length] at lm3 all3
        have eT : turnsF wl ul.length = alongF (lnk wl) qs.length := by
          unfold turnsF
          rw [if_pos all3, ql, lu]
        refine ⟨_, rfl, D, qs, lnk wl, rfl, lm3.ll, by omega, ?_, fun H4 s4 e => fin0 _ (sm3.trans s4) (eT.trans e), fun H4 q ts s4 e hq => fin1 _ q ts (sm3.trans s4) (eT.trans e) hq⟩
        rw [ql, lu]
        exact okL rok all3
end
end M57

namespace M57
open PySem PySem.Spec PyProof.Rows L2 SX Own Gd
open C8 (Cal pe_c pe_gc pe_mk Mak pss_cut)
/-! ### turns are 1 or -1 -/
theorem linkF_pm {t : Int} (ht : t = 1 ∨ t = -1) : ∀ {es : List Lk} {s s' : Mp × List Nat}, (∀ x ∈ es, x.2 = 1 ∨ x.2 = -1) → linkF t s es = some s' → PmM s.1 → PmM s'.1
  | [], s, s', _, e, h => by
    rw [linkF] at e
    cases e
    exact h
  | x :: es, s, s', ok, e, h => by
    have ok2 := fun y hy => ok y (List.mem_cons_of_mem x hy)
    rw [linkF] at e
    split at e
    · exact linkF_pm ht ok2 e (h.put (pm_mul ht (ok x (List.mem_cons_self ..))))
    · split at e
      · exact linkF_pm ht ok2 e h
      · cases e
/-- each waiting one has a turn -/
def Has (m : Mp) (wl : List Nat) : Prop := ∀ k ∈ wl, ∃ u, m k = some u
theorem linkF_wait {t : Int} : ∀ {es : List Lk} {s s' : Mp × List Nat}, linkF t s es = some s' → Has s.1 s.2 → Has s'.1 s'.2
  | [], s, s', e, h => by
    rw [linkF] at e
    cases e
    exact h
  | x :: es, s, s', e, h => by
    rw [linkF] at e
    split at e
    · refine linkF_wait e fun k hk => ?_
      rcases List.mem_append.mp hk with hk | hk
      · exact put_has (h k hk)
      · rw [List.mem_singleton.mp hk]
        exact ⟨t * x.2, if_pos rfl⟩
    · split at e
      · exact linkF_wait e h
      · cases e
theorem last_mem {wl : List Nat} {a : Nat} (h : wl.getLast? = some a) : a ∈ wl := List.mem_of_getLast? h
theorem waitF_pm {L : Nat → List Lk} (ok : ∀ j, ∀ x ∈ L j, x.2 = 1 ∨ x.2 = -1) : ∀ {F : Nat} {m m' : Mp} {wl : List Nat}, waitF L F m wl = some m' → Has m wl → PmM m → PmM m'
  | 0, m, m', wl, e, _, h => by
    rw [waitF] at e
    cases e
    exact h
  | F + 1, m, m', wl, e, g, h => by
    rw [waitF] at e
    split at e
    · cases e
      exact h
    · rename_i a ha
      obtain ⟨u, hu⟩ := g a (last_mem ha)
      split at e
      · cases e
      · rename_i s hs
        rw [hu] at hs
        exact waitF_pm ok e (linkF_wait hs fun k hk => g k (List.dropLast_subset _ hk)) (linkF_pm (h a u hu) (ok a) hs h)
theorem allF_pm {L : Nat → List Lk} {F : Nat} (ok : ∀ j, ∀ x ∈ L j, x.2 = 1 ∨ x.2 = -1) : ∀ {n : Nat} {m : Mp}, allF L F n = some m → PmM m
  | 0, m, e => by
    rw [allF] at e
    cases e
    exact fun k t e => nomatch e
  | n + 1, m, e => by
    rw [allF] at e
    split at e
    · cases e
    · rename_i m0 h0
      have p0 := allF_pm ok h0
      split at e
      · cases e
        exact p0
      · refine waitF_pm ok e (fun k hk => ?_) (p0.put (.inl rfl))
        rw [List.mem_singleton.mp hk]
        exact ⟨1, by unfold Mp.put; rw [if_pos rfl]⟩
theorem turnsF_len {wl : List Wish} {n : Nat} {ts : List Int} (e : turnsF wl n = some ts) : ts.length = n := by
  unfold turnsF at e
  split at e
  · unfold alongF at e
    obtain ⟨m, _, rfl⟩ := Option.map_eq_some_iff.mp e
    rw [List.length_map, List.length_range]
  · cases e
theorem turnsF_pm {wl : List Wish} {n : Nat} {ts : List Int} (rok : ∀ r, Wish.sum r ∈ wl → r.am.length = n ∧ Sm 1000 r.am) (e : turnsF wl n = some ts) : Pm ts := by
  unfold turnsF at e
  split at e
  · rename_i al
    unfold alongF at e
    obtain ⟨m, hm, rfl⟩ := Option.map_eq_some_iff.mp e
    intro t ht
    obtain ⟨k, hk, rfl⟩ := List.mem_map.mp ht
    obtain ⟨u, hu⟩ := allF_set hm k (List.mem_range.mp hk)
    rw [hu]
    exact allF_pm (fun j x hx => (okL rok al j x hx).2) hm k u hu
  · cases e
/-! ### the best threshold -/
def stepB (goal : List Int) (b : Option (List Int)) (p : List Int) : Option (List Int) := match b with
  | none => some p
  | some q => if dot goal p < dot goal q then some p else some q
def bestF (goal : List Int) (ps : List (List Int)) : Option (List Int) := ps.foldl (stepB goal) none
def OI (H : Hp) (v : V) : Option (List Int) → Prop
  | none => v = .non
  | some l => LV H v l
theorem OI.tk {H H' : Hp} {v : V} {o : Option (List Int)} (h : OI H v o) (s : TK H H') : OI H' v o := by
  cases o with
  | none => exact h
  | some l => exact LV.tk h s
theorem bestF_take {goal : List Int} {ps : List (List Int)} {i : Nat} {p : List Int} (h : ps[i]? = some p) : bestF goal (ps.take (i + 1)) = stepB goal (bestF goal (ps.take i)) p := by
  unfold bestF
  rw [take_one h, List.foldl_append]; rfl
theorem bestF_mem {goal : List Int} {n : Nat} : ∀ {ps : List (List Int)} {b : Option (List Int)}, (∀ p ∈ ps, p.length = n) → (∀ q, b = some q → q.length = n) → ∀ q, ps.foldl (stepB goal) b = some q → q.length = n
  | [], b, _, hb, q, e => hb q e
  | p :: ps, b, h, hb, q, e => by
    refine bestF_mem (ps := ps) (b := stepB goal b p) (fun x hx => h x (List.mem_cons_of_mem _ hx)) (fun x hx => ?_) q e
    have hp := h p (List.mem_cons_self ..)
    unfold stepB at hx
    split at hx
    · cases hx; exact hp
    · split at hx
      · cases hx; exact hp
      · cases hx; exact hb _ rfl
section
variable {P : Program} {w : World} {K : PySem.W.Frag} {mg : Str → Option Value} {base : Heap} {aW aT : Addr} {es : Array DictEntry} {nn : Nat}
abbrev s_best_threshold : Stmt := topS 44
abbrev n_best_threshold : List Str := ["task", "start", "turns", "best", "_", "point"]
theorem sc_best_threshold : FnScope n_best_threshold ["task", "start"] (defScope s_best_threshold) := ⟨rfl, rfl, rfl, by decide +kernel, rfl, by decide +kernel, by decide +kernel⟩
def spBest (C : Addr) : Sp := fun vs H Q _ => ∃ (tv sv : V) (ul : List Unk) (wl : List Wish) (goal : List Int) (st : List Fr), vs = [tv, sv] ∧ TaskV C H tv ul wl goal ∧ SV H sv st ∧ wl.length ≤ 100 ∧ ul.length ≤ 50 ∧ (∀ r, Wish.sum r ∈ wl → r.am.length = ul.length ∧ Sm 1000 r.am) ∧ st.length = ul.length ∧ goal.length = ul.length ∧ (∀ f ∈ st, F12 f) ∧ Sm 1000 goal ∧
  (∀ H', Same H H' → turnsF wl ul.length = none → Q .non H') ∧ ∀ H' ts (ns : List Int) v, Same H H' → turnsF wl ul.length = some ts → ns.Pairwise (· < ·) → (∀ k, k ∈ ns ↔ k ∈ szs st ts) → OI H' v (bestF goal (ns.map fun n => (thP st ts n).2)) → Q v H'
theorem ok_best_threshold {f C : Addr} {fd : FuncData} (F : Fun K "best_threshold" "best_threshold" s_best_threshold f fd) (T : Txt K mg w aW aT es nn) (cc : CC K C) (c_turns_of : Cal P w K mg base 2 "turns_of" (spTurns C) []) (c_threshold_points : Cal P w K mg base 3 "threshold_points" spThr []) (c_worth : Cal P w K mg base 2 "worth" spTotal []) : FnOk P w K mg base CX0 4 f fd ["task", "start"] (spBest C) := by
  refine F.ok sc_best_threshold (fun vs H Q E h => ?_) (fun cdv A outer s H vs Q E hr h => ?_)
  · obtain ⟨tv, sv, ul, wl, goal, st, rfl, _⟩ := h
    rfl
  · obtain ⟨tv, sv, ul, wl, goal, st, rfl, tk0, sv0, w100, u50, rok, lst, lg, f12, gs, fin0, fin1⟩ := h
    obtain ⟨x, dx, pu, pw, pg, us, ws, rfl, hx, hpu, uv, hpw, wv, hpg⟩ := id tk0
    refine ⟨_, (pss_cons (ps_set (i := 2) sc_best_threshold.nd rfl (.inl rfl) (pe_c c_turns_of hr (by decide) (by rfl) (pa_cons (pv 0) pa_nil)))
      (pss_cons (ps_if (pt_cmpR op_isN (pv 2) pe_non (nomark _)) (pss_one (ps_ret pe_non)) pss_nil)
      (pss_cons (ps_set (i := 3) sc_best_threshold.nd rfl (.inl rfl) pe_non)
      (pss_cons (ps_for PassesOwn.never rfl (pi_tup (pe_c c_threshold_points hr (by decide) (by rfl) (pa_cons (pv 1) (pa_cons (pv 2) pa_nil)))) (pg_tup rfl (pgs_cons (pg_name (i := 4) sc_best_threshold.nd rfl (.inl rfl)) (pgs_cons (pg_name (i := 5) sc_best_threshold.nd rfl (.inl rfl)) pgs_nil))) (pss_one (ps_if (PW.pt (pw_or (pt_cmpR op_isN (pv 3) pe_non (nomark _)) (pw_or1 (pt_cmpR op_lt (pe_c c_worth hr (by decide) (by rfl) (pa_cons (pe_fld (pv 0) (by rfl)) (pa_cons (pv 5) pa_nil))) (pe_c c_worth hr (by decide) (by rfl) (pa_cons (pe_fld (pv 0) (by rfl)) (pa_cons (pv 3) pa_nil))) (nomark _))))) (pss_one (ps_set (i := 3) sc_best_threshold.nd rfl (.inl rfl) (pv 5))) pss_nil)))
      (pss_one (ps_ret (pv 3))))))), ?_⟩
    refine ⟨_, rfl, _, ul, wl, goal, rfl, tk0, w100, by omega, rok, fun H1 s1 e => ?_, fun H1 pt ts s1 e ht => ?_⟩
    · exact ⟨_, rfl, rfl, _, rfl, iteT (fin0 _ s1 e)⟩
    · have lts := turnsF_len e
      have pts := turnsF_pm rok e
      refine ⟨_, rfl, rfl, _, rfl, iteF ?_⟩
      refine ⟨_, rfl, _, rfl, sv, .ref pt, st, ts, rfl, sv0.same s1, ⟨pt, rfl, ht⟩, by omega, by omega, f12, pts, fun ns H2 p us2 pwz mem s2 hp al => ?_⟩
      have s12 := s1.trans s2
      have lal := al.len
      rw [List.length_map] at lal
      have ptl : ∀ n, (thP st ts n).2.length = ul.length := fun n => (rnd_len (by omega)).trans lst
      refine ⟨p, rfl, ⟨_, sq_tup hp⟩, for_tup (K := K) (a := p) (xs := us2) (fun i σ H' => ∃ vb y4 y5, σ = [some (.ref x), some sv, some (.ref pt), some vb, y4, y5] ∧ Same H2 H' ∧ OI H' vb (bestF goal ((ns.map fun n => (thP st ts n).2).take i)))
        ⟨.non, none, none, rfl, Same.refl _, rfl⟩ (fun i σ H' _ h => by obtain ⟨_, _, _, _, s, _⟩ := h; exact sq_tup (s _ _ hp)) (fun i v σ H3 hv h => ?_) (fun σ H3 h => ?_)⟩
      · obtain ⟨vb, y4, y5, rfl, s3, oi⟩ := h
        obtain ⟨z, hz, pp, u, u2, rfl, hpp, fvu, lvu⟩ := al.at_ hv
        rw [List.getElem?_map] at hz
        obtain ⟨n, hn, rfl⟩ := Option.map_eq_some_iff.mp hz
        have hn2 : (ns.map fun n => (thP st ts n).2)[i]? = some (thP st ts n).2 := by rw [List.getElem?_map, hn]; rfl
        have tk := bestF_take (goal := goal) hn2
        have bl : ∀ q, bestF goal ((ns.map fun n => (thP st ts n).2).take i) = some q → q.length = ul.length := fun q e => bestF_mem (fun p hp => by
          obtain ⟨n, _, rfl⟩ := List.mem_map.mp (List.mem_of_mem_take hp)
          exact ptl n) (fun q (e : none = some q) => by cases e) q e
        have pl := ptl n
        have lv3 := lvu.same s3
        have s13 := s12.trans s3
        refine ⟨pp, _, rfl, sq_tup (s3 _ _ hpp), rfl, _, _, rfl, _, _, rfl, rfl, ?_⟩
        generalize bestF goal ((ns.map fun n => (thP st ts n).2).take i) = b at *
        cases b with
        | none =>
          obtain rfl : vb = .non := oi
          refine ⟨_, rfl, rfl, _, rfl, iteT ⟨_, rfl, _, _, _, rfl, s3, ?_⟩⟩
          rw [tk]
          exact lv3
        | some q =>
          obtain ⟨pb, rfl, hpb⟩ := id oi
          have ql := bl q rfl
          refine ⟨_, rfl, rfl, _, rfl, iteF ?_⟩
          refine ⟨_, rfl, x, C, dx, _, _, rfl, s13 _ _ hx, cc.cl, cc.ng, lk_g _ _ _, _, rfl, .ref pg, u2, goal, _, rfl, ⟨pg, rfl, s13 _ _ hpg⟩, lv3, by omega, gs, fun H4 s4 => ?_⟩
          refine ⟨_, rfl, x, C, dx, _, _, rfl, s4 _ _ (s13 _ _ hx), cc.cl, cc.ng, lk_g _ _ _, _, rfl, .ref pg, .ref pb, goal, q, rfl, ⟨pg, rfl, s4 _ _ (s13 _ _ hpg)⟩, ⟨pb, rfl, s4 _ _ hpb⟩, by omega, gs, fun H5 s5 => ⟨_, _, rfl, rfl, _, rfl, ite2 (fun c => ?_) (fun c => ?_)⟩⟩
          · have c : dot goal (thP st ts n).2 < dot goal q := of_decide_eq_true c
            refine ⟨_, rfl, _, _, _, rfl, (s3.trans s4).trans s5, ?_⟩
            rw [tk, stepB, if_pos c]
            exact (lv3.same s4).same s5
          · have c : ¬ dot goal (thP st ts n).2 < dot goal q := fun z => c (decide_eq_true z)
            refine ⟨_, _, _, rfl, (s3.trans s4).trans s5, ?_⟩
            rw [tk, stepB, if_neg c]
            exact ⟨pb, rfl, s5 _ _ (s4 _ _ hpb)⟩
      · obtain ⟨vb, y4, y5, rfl, s3, oi⟩ := h
        rw [List.take_of_length_le (by rw [List.length_map]; omega)] at oi
        exact ⟨_, rfl, fin1 _ ts ns vb (s12.trans s3) e pwz mem oi⟩
end
end M57

namespace M57
open PySem PySem.Spec PyProof.Rows L2 SX Own Gd
open C8 (Cal pe_c pe_gc pe_mk Mak pss_cut)
section
variable {P : Program} {w : World} {K : PySem.W.Frag} {mg : Str → Option Value} {base : Heap} {aW aT : Addr} {es : Array DictEntry} {nn : Nat}
abbrev s_Lsum : Stmt := topS 50
abbrev n_Lsum : List Str := ["amounts", "values", "k"]
theorem sc_Lsum : FnScope n_Lsum ["amounts", "values"] (defScope s_Lsum) := ⟨rfl, rfl, rfl, by decide +kernel, rfl, by decide +kernel, by decide +kernel⟩
def spLSum : Sp := fun vs H Q _ => ∃ (av xv : V) (a x : List Int), vs = [av, xv] ∧ AV H av a ∧ AV H xv x ∧ x.length = a.length ∧ a.length ≤ 100 ∧ Sm 1000 a ∧ ∀ H', Same H H' → Q (.int (dot a x)) H'
theorem ok_Lsum {f : Addr} {fd : FuncData} (F : Fun K "_law_sum" "_law_sum" s_Lsum f fd) (T : Txt K mg w aW aT es nn) : FnOk P w K mg base CX0 1 f fd ["amounts", "values"] spLSum := by
  refine F.ok sc_Lsum (fun vs H Q E h => ?_) (fun cdv A outer s H vs Q E hr h => ?_)
  · obtain ⟨av, xv, a, x, rfl, _⟩ := h
    rfl
  · obtain ⟨av, xv, a, x, rfl, ⟨pa, rfl, hpa⟩, ⟨px, rfl, hpx⟩, ln, l100, sa, fin⟩ := h
    refine ⟨_, (pss_one (ps_ret (pe_callB (cr_sum rfl) (by rfl) T.b_sum (by decide +kernel) (pa_cons (pe_lc (own := [("k", 2)]) rfl sc_Lsum.nd (pi_range1 (by rfl) T.b_range (pa_cons (pe_callB call_len_seq (by rfl) T.b_len (by decide +kernel) (pa_cons (pv 0) pa_nil)) pa_nil)) (blkOk_by (N := n_Lsum) (sc := defScope s_Lsum) (by decide +kernel)) (fun _ _ _ _ _ => (pg_name (i := 2) sc_Lsum.nd rfl (.inl rfl))) (fun _ _ _ _ _ => pts_nil) (fun _ _ _ _ _ => (pe_op op_mul (pe_ix (r := rIxA K) ix_any (pv 0) (pv 2) (fun _ _ => rfl)) (pe_ix (r := rIxA K) ix_any (pv 1) (pv 2) (fun _ _ => rfl))))) pa_nil)))), ?_⟩
    refine ⟨_, rfl, pa, _, rfl, AV.seq hpa, _, rfl, by rw [List.length_map]; omega, by rw [List.length_map]; omega, ?_⟩
    rw [List.length_map]
    refine fun D nD => lc_range (lo := 0) (n := ((a.length : Nat) : Int).toNat) (fun i H' => ∃ ms : List Int, H' D = some (.lst (ms.map V.int)) ∧ Same H H' ∧ ms.length = i ∧ ms.sum = dot (a.take i) (x.take i)) ⟨[], upd_same, same_upd nD, rfl, rfl⟩ (fun i H2 hi hI => ?_) (fun H2 hI => ?_)
    · obtain ⟨ms, hD, sm, ml, es⟩ := hI
      rw [Int.toNat_natCast] at hi
      rw [show ((0 : Int) + (i : Nat)) = (i : Int) by omega]
      have hc : a[i]? = some (a[i]'hi) := List.getElem?_eq_getElem hi
      have hy : x[i]? = some (x[i]'(by omega)) := List.getElem?_eq_getElem (by omega)
      have bc := sa.at_ hc
      generalize a[i]'hi = c at *
      generalize x[i]'(by omega) = y at *
      have hpa2 : H2 pa = some (tL a) ∨ H2 pa = some (tI a) := hpa.elim (fun e => .inl (sm _ _ e)) fun e => .inr (sm _ _ e)
      have hpx2 : H2 px = some (tL x) ∨ H2 px = some (tI x) := hpx.elim (fun e => .inl (sm _ _ e)) fun e => .inr (sm _ _ e)
      refine ⟨rfl, _, rfl, _, rfl, pa, _, _, .int c, rfl, rfl, AV.seq hpa2, atI_nat (by rw [List.getElem?_map, hc]; rfl), _, rfl, _, rfl, px, _, _, .int y, rfl, rfl, AV.seq hpx2, atI_nat (by rw [List.getElem?_map, hy]; rfl), _, _, rfl, rfl, .inl ⟨by omega, by omega⟩, _, hD, small1000 (by rw [List.length_map]; omega), ms ++ [c * y], ?_, same_at sm nD, ?_, ?_⟩
      · rw [upd_same, List.map_append]; rfl
      · rw [List.length_append, ml]; rfl
      · rw [List.sum_append, es, dot_take hc hy]; simp
    · obtain ⟨ms, hD, sm, ml, es⟩ := hI
      rw [Int.toNat_natCast, List.take_length, ← ln, List.take_length] at es
      refine ⟨D, _, rfl, sq_lst hD, ?_⟩
      rw [es]
      exact fin _ sm
end
end M57

namespace M57
open PySem PySem.Spec PyProof.Rows L2 SX Own Gd
open C8 (Cal pe_c pe_gc pe_mk Mak pss_cut)
def abF (p : Int × Int) : Int := p.1 * p.2 - 12 * (p.1 * p.2 / 12)
def bs (ts xs : List Int) : List Int := (ts.zip xs).map fun p => p.1 * p.2 / 12
def ab (ts xs : List Int) : List Int := (ts.zip xs).map abF
def ptF (m : Int) (p : Int × Int) : Int := p.1 * (p.1 * p.2 / 12 + if m ≤ abF p then 1 else 0)
def pt (ts xs : List Int) (m : Int) : List Int := (ts.zip xs).map (ptF m)
def mkI (ts xs : List Int) (i : Nat) : List Int := ((List.range i).map fun j => (1 : Int) + (j : Nat)).filter fun m => decide (m ∈ ab ts xs) || decide (m = 12)
theorem mkI_succ {ts xs : List Int} {i : Nat} : mkI ts xs (i + 1) = if (decide ((1 : Int) + (i : Nat) ∈ ab ts xs) || decide ((1 : Int) + (i : Nat) = 12)) = true then mkI ts xs i ++ [(1 : Int) + (i : Nat)] else mkI ts xs i := by
  unfold mkI
  rw [List.range_succ, List.map_append, List.filter_append, List.map_cons, List.map_nil, List.filter_cons, List.filter_nil]
  split
  · rfl
  · exact List.append_nil _
theorem flat_ints : ∀ xs : List Int, (xs.map V.int).all flatV = true
  | [] => rfl
  | a :: r => by rw [List.map_cons, List.all_cons, flat_ints r]; rfl
def MP (H : Hp) (v : V) (x : Int × List Int) : Prop := ∃ p u, v = .ref p ∧ H p = some (.tup [.int x.1, u]) ∧ LV H u x.2
theorem MP.tk {H H' : Hp} {v : V} {x : Int × List Int} (h : MP H v x) (s : TK H H') : MP H' v x := by
  obtain ⟨p, u, e, f, k⟩ := h
  exact ⟨p, u, e, s _ _ f, k.tk s⟩
theorem inV_int (xs : List Int) (m : Int) : inV (.int m) (xs.map V.int) = decide (m ∈ xs) := by
  unfold inV
  induction xs with
  | nil => rfl
  | cons a r ih =>
    rw [List.map_cons, List.any_cons, ih]
    by_cases h : a = m
    · subst h; simp [eqV]
    · have : ¬ m = a := fun z => h z.symm
      simp [eqV, h, this]
section
variable {P : Program} {w : World} {K : PySem.W.Frag} {mg : Str → Option Value} {base : Heap} {aW aT : Addr} {es : Array DictEntry} {nn : Nat}
abbrev s_Lturned : Stmt := topS 55
abbrev n_Lturned : List Str := ["values", "turns", "bases", "above", "found", "mark", "k"]
theorem sc_Lturned : FnScope n_Lturned ["values", "turns"] (defScope s_Lturned) := ⟨rfl, rfl, rfl, by decide +kernel, rfl, by decide +kernel, by decide +kernel⟩
def spTurned : Sp := fun vs H Q _ => ∃ (xv tv : V) (ts xs : List Int), vs = [xv, tv] ∧ (∃ p, xv = .ref p ∧ H p = some (tL xs)) ∧ LV H tv ts ∧ xs.length = ts.length ∧ ts.length ≤ 100 ∧ Pm ts ∧
  ∀ H' p us, Same H H' → H' p = some (.lst us) → All2 (MP H') us ((mkI ts xs 12).map fun m => (m, pt ts xs m)) → Q (.ref p) H'
theorem ok_Lturned {f : Addr} {fd : FuncData} (F : Fun K "_law_turned" "_law_turned" s_Lturned f fd) (T : Txt K mg w aW aT es nn) : FnOk P w K mg base CX0 1 f fd ["values", "turns"] spTurned := by
  refine F.ok sc_Lturned (fun vs H Q E h => ?_) (fun cdv A outer s H vs Q E hr h => ?_)
  · obtain ⟨xv, tv, ts, xs, rfl, _⟩ := h
    rfl
  · obtain ⟨xv, tv, ts, xs, rfl, ⟨px, rfl, hpx⟩, ⟨pt', rfl, hpt⟩, lx, l100, pm, fin⟩ := h
    have at_t : ∀ {i : Nat}, i < ts.length → ∃ t x, ts[i]? = some t ∧ xs[i]? = some x ∧ (t = 1 ∨ t = -1) := fun {i} hi =>
      ⟨ts[i], xs[i]'(by omega), List.getElem?_eq_getElem hi, List.getElem?_eq_getElem (by omega), pm _ (List.getElem_mem hi)⟩
    refine ⟨_, (pss_cons (ps_set (i := 2) sc_Lturned.nd rfl (.inr rfl) (pe_lc (own := [("k", 6)]) rfl sc_Lturned.nd (pi_range1 (by rfl) T.b_range (pa_cons (pe_callB call_len_seq (by rfl) T.b_len (by decide +kernel) (pa_cons (pv 1) pa_nil)) pa_nil)) (blkOk_by (N := n_Lturned) (sc := defScope s_Lturned) (by decide +kernel)) (fun _ _ _ _ _ => (pg_name (i := 6) sc_Lturned.nd rfl (.inl rfl))) (fun _ _ _ _ _ => pts_nil) (fun _ _ _ _ _ => (pe_op op_fdiv (pe_op op_mul (pe_ix (r := rIxT K) ix_tup (pv 1) (pv 6) (fun _ _ => rfl)) (pe_ix (r := rIxL K) ix_list (pv 0) (pv 6) (fun _ _ => rfl))) pe_int))))
      (pss_cons (ps_set (i := 3) sc_Lturned.nd rfl (.inr rfl) (pe_lc (own := [("k", 6)]) rfl sc_Lturned.nd (pi_range1 (by rfl) T.b_range (pa_cons (pe_callB call_len_seq (by rfl) T.b_len (by decide +kernel) (pa_cons (pv 1) pa_nil)) pa_nil)) (blkOk_by (N := n_Lturned) (sc := defScope s_Lturned) (by decide +kernel)) (fun _ _ _ _ _ => (pg_name (i := 6) sc_Lturned.nd rfl (.inl rfl))) (fun _ _ _ _ _ => pts_nil) (fun _ _ _ _ _ => (pe_op op_sub (pe_op op_mul (pe_ix (r := rIxT K) ix_tup (pv 1) (pv 6) (fun _ _ => rfl)) (pe_ix (r := rIxL K) ix_list (pv 0) (pv 6) (fun _ _ => rfl))) (pe_op op_mul pe_int (pe_ix (r := rIxL K) ix_list (pv 2) (pv 6) (fun _ _ => rfl)))))))
      (pss_cons (ps_set (i := 4) sc_Lturned.nd rfl (.inl rfl) (pe_lst pa_nil))
      (pss_cons (ps_for PassesOwn.never rfl (pi_range2 (by rfl) T.b_range (pa_cons pe_int (pa_cons pe_int pa_nil))) (pg_name (i := 5) sc_Lturned.nd rfl (.inr rfl)) (pss_one (ps_if (PW.pt (pw_or (pt_cmpR op_in_seq (pv 5) (pv 3) (by rfl)) (pw_or1 (pt_cmpR op_eq (pv 5) pe_int (nomark _))))) (pss_one (ps_expr (pe_bm PySem.F.plainAttrs_list PySem.F.slot_list_append PySem.F.type_list_append mt_append (pv 4) (pa_cons (pe_tup (pa_cons (pv 5) (pa_cons (pe_callTy call_tuple_of (by rfl) T.b_tuple (by decide +kernel) (pa_cons (pe_lc (own := [("k", 6)]) rfl sc_Lturned.nd (pi_range1 (by rfl) T.b_range (pa_cons (pe_callB call_len_seq (by rfl) T.b_len (by decide +kernel) (pa_cons (pv 1) pa_nil)) pa_nil)) (blkOk_by (N := n_Lturned) (sc := defScope s_Lturned) (by decide +kernel)) (fun _ _ _ _ _ => (pg_name (i := 6) sc_Lturned.nd rfl (.inl rfl))) (fun _ _ _ _ _ => pts_nil) (fun _ _ _ _ _ => (pe_op op_mul (pe_ix (r := rIxT K) ix_tup (pv 1) (pv 6) (fun _ _ => rfl)) (pe_op op_add (pe_ix (r := rIxL K) ix_list (pv 2) (pv 6) (fun _ _ => rfl)) (pe_ifExp (pt_cmpR op_ge (pe_ix (r := rIxL K) ix_list (pv 3) (pv 6) (fun _ _ => rfl)) (pv 5) (nomark _)) pe_int pe_int))))) pa_nil)) pa_nil))) pa_nil)))) pss_nil)))
      (pss_one (ps_ret (pv 4))))))), ?_⟩
    refine ⟨_, rfl, pt', _, rfl, .inr (sq_tup hpt), _, rfl, by rw [List.length_map]; omega, by rw [List.length_map]; omega, ?_⟩
    rw [List.length_map]
    refine fun D nD => lc_range (lo := 0) (n := ((ts.length : Nat) : Int).toNat) (fun i H' => H' D = some (.lst ((((ts.zip xs).take i).map fun p => p.1 * p.2 / 12).map V.int)) ∧ Same H H') ⟨upd_same, same_upd nD⟩ (fun i H2 hi hI => ?_) (fun H2 hI => ?_)
    · obtain ⟨hD, sm⟩ := hI
      rw [Int.toNat_natCast] at hi
      rw [show ((0 : Int) + (i : Nat)) = (i : Int) by omega]
      obtain ⟨t, x, ht, hx, pt1⟩ := at_t hi
      have tb : -1 ≤ t ∧ t ≤ 1 := by rcases pt1 with rfl | rfl <;> decide
      refine ⟨rfl, _, rfl, _, rfl, pt', _, _, .int t, rfl, rfl, sq_tup (sm _ _ hpt), atI_nat (by rw [List.getElem?_map, ht]; rfl), _, rfl, _, rfl, px, _, _, .int x, rfl, rfl, sq_lst (sm _ _ hpx), atI_nat (by rw [List.getElem?_map, hx]; rfl), _, _, rfl, rfl, .inl ⟨by omega, by omega⟩, _, _, rfl, rfl, ⟨by decide, by decide⟩, _, hD, small1000 (by rw [List.length_map, List.length_map, List.length_take]; omega), ?_, same_at sm nD⟩
      rw [upd_same, take_one (zip_at ht hx), List.map_append, List.map_append]; rfl
    obtain ⟨hD, sm⟩ := hI
    rw [Int.toNat_natCast, List.take_of_length_le (by rw [List.length_zip]; omega)] at hD
    refine ⟨_, rfl, pt', _, rfl, .inr (sq_tup (sm _ _ hpt)), _, rfl, by rw [List.length_map]; omega, by rw [List.length_map]; omega, ?_⟩
    rw [List.length_map]
    refine fun D2 nD2 => lc_range (lo := 0) (n := ((ts.length : Nat) : Int).toNat) (fun i H' => H' D2 = some (.lst ((((ts.zip xs).take i).map abF).map V.int)) ∧ Same H2 H') ⟨upd_same, same_upd nD2⟩ (fun i H3 hi hI => ?_) (fun H3 hI => ?_)
    · obtain ⟨hD2, s3⟩ := hI
      rw [Int.toNat_natCast] at hi
      rw [show ((0 : Int) + (i : Nat)) = (i : Int) by omega]
      obtain ⟨t, x, ht, hx, pt1⟩ := at_t hi
      have tb : -1 ≤ t ∧ t ≤ 1 := by rcases pt1 with rfl | rfl <;> decide
      have s13 := sm.trans s3
      refine ⟨rfl, _, rfl, _, rfl, pt', _, _, .int t, rfl, rfl, sq_tup (s13 _ _ hpt), atI_nat (by rw [List.getElem?_map, ht]; rfl), _, rfl, _, rfl, px, _, _, .int x, rfl, rfl, sq_lst (s13 _ _ hpx), atI_nat (by rw [List.getElem?_map, hx]; rfl), _, _, rfl, rfl, .inl ⟨by omega, by omega⟩, _, rfl, _, rfl, D, _, _, .int (t * x / 12), rfl, rfl, sq_lst (s3 _ _ hD), atI_nat (by rw [List.getElem?_map, List.getElem?_map, zip_at ht hx]; rfl), _, _, rfl, rfl, .inl ⟨by decide, by decide⟩, _, _, rfl, rfl, _, hD2, small1000 (by rw [List.length_map, List.length_map, List.length_take]; omega), ?_, same_at s3 nD2⟩
      rw [upd_same, take_one (zip_at ht hx), List.map_append, List.map_append]; rfl
    obtain ⟨hD2, s3⟩ := hI
    rw [Int.toNat_natCast, List.take_of_length_le (by rw [List.length_zip]; omega)] at hD2
    refine ⟨nil_ok, fun l nl => ?_⟩
    have k4 := same_upd (o := .lst []) nl
    have el : upd H3 l (.lst []) l = some (.lst []) := upd_same
    have hDl := k4 _ _ (s3 _ _ hD)
    have hD2l := k4 _ _ hD2
    have sm4 := (sm.trans s3).trans k4
    have nlH : H l = none := (sm.trans s3).free nl
    have nlD : D ≠ l := ne_of_none (s3 _ _ hD) nl
    have nlD2 : D2 ≠ l := ne_of_none hD2 nl
    generalize upd H3 l (.lst []) = H4 at *
    refine ⟨1, 13, rfl, ⟨by decide, by decide, by decide, by decide⟩, for_range (lo := 1) (n := ((13 : Int) - 1).toNat) (fun i σ H' => ∃ y5 us, σ = [some (.ref px), some (.ref pt'), some (.ref D), some (.ref D2), some (.ref l), y5, none] ∧ Same H H' ∧ H' D = some (tL (bs ts xs)) ∧ H' D2 = some (tL (ab ts xs)) ∧ H' l = some (.lst us) ∧ us.length ≤ i ∧ All2 (MP H') us ((mkI ts xs i).map fun m => (m, pt ts xs m)))
      ⟨none, [], rfl, sm4, hDl, hD2l, el, Nat.le_refl _, .nil⟩ (fun i σ H5 hi hI => ?_) (fun σ H5 hI => ?_)⟩
    · obtain ⟨y5, us, rfl, sm5, hD5, hD25, hl5, ul5, al5⟩ := hI
      have hi : i < 12 := hi
      refine ⟨_, rfl, _, rfl, D2, _, rfl, .inl (sq_lst hD25), rfl, flat_ints _, _, rfl, ?_⟩
      rw [inV_int]
      by_cases hm : (1 : Int) + (i : Nat) ∈ ab ts xs
      · refine ite2 (fun _ => iteT ?_) (fun z => absurd (decide_eq_true hm) z)
        · refine ⟨_, rfl, .inl ⟨rfl, _, sq_lst hl5⟩, _, rfl, _, rfl, pt', _, rfl, .inr (sq_tup (sm5 _ _ hpt)), _, rfl, by rw [List.length_map]; omega, by rw [List.length_map]; omega, ?_⟩
          rw [List.length_map]
          refine fun D3 nD3 => lc_range (lo := 0) (n := ((ts.length : Nat) : Int).toNat) (fun j H' => H' D3 = some (.lst ((((ts.zip xs).take j).map (ptF (1 + (i : Nat)))).map V.int)) ∧ Same H5 H') ⟨upd_same, same_upd nD3⟩ (fun j H6 hj hI => ?_) (fun H6 hI => ?_)
          · obtain ⟨hD3, s6⟩ := hI
            rw [Int.toNat_natCast] at hj
            rw [show ((0 : Int) + (j : Nat)) = (j : Int) by omega]
            obtain ⟨t, x, ht, hx, pt1⟩ := at_t hj
            have tb : -1 ≤ t ∧ t ≤ 1 := by rcases pt1 with rfl | rfl <;> decide
            refine ⟨rfl, _, rfl, _, rfl, pt', _, _, .int t, rfl, rfl, sq_tup (s6 _ _ (sm5 _ _ hpt)), atI_nat (by rw [List.getElem?_map, ht]; rfl), _, rfl, _, rfl, D, _, _, .int (t * x / 12), rfl, rfl, sq_lst (s6 _ _ hD5), atI_nat (by rw [List.getElem?_map]; unfold bs; rw [List.getElem?_map, zip_at ht hx]; rfl), _, rfl, _, rfl, D2, _, _, .int (abF (t, x)), rfl, rfl, sq_lst (s6 _ _ hD25), atI_nat (by rw [List.getElem?_map]; unfold ab; rw [List.getElem?_map, zip_at ht hx]; rfl), _, rfl, _, _, rfl, rfl, _, rfl, ite2 (fun c => ?_) (fun c => ?_)⟩
            · have c : (1 : Int) + (i : Nat) ≤ abF (t, x) := of_decide_eq_true c
              refine ⟨_, _, rfl, rfl, _, _, rfl, rfl, .inl ⟨by omega, by omega⟩, _, hD3, small1000 (by rw [List.length_map, List.length_map, List.length_take]; omega), ?_, same_at s6 nD3⟩
              rw [upd_same, take_one (zip_at ht hx), List.map_append, List.map_append, show ((ts.zip xs).take j).map (ptF (1 + (i : Nat))) = _ from rfl, List.map_cons, show ptF (1 + (i : Nat)) (t, x) = t * (t * x / 12 + 1) by unfold ptF; rw [if_pos c]]; rfl
            · have c : ¬ (1 : Int) + (i : Nat) ≤ abF (t, x) := fun z => c (decide_eq_true z)
              refine ⟨_, _, rfl, rfl, _, _, rfl, rfl, .inl ⟨by omega, by omega⟩, _, hD3, small1000 (by rw [List.length_map, List.length_map, List.length_take]; omega), ?_, same_at s6 nD3⟩
              rw [upd_same, take_one (zip_at ht hx), List.map_append, List.map_append, List.map_cons, show ptF (1 + (i : Nat)) (t, x) = t * (t * x / 12 + 0) by unfold ptF; rw [if_neg c]]; rfl
          obtain ⟨hD3, s6⟩ := hI
          rw [Int.toNat_natCast, List.take_of_length_le (by rw [List.length_zip]; omega)] at hD3
          refine ⟨D3, _, rfl, .inl ⟨sq_lst hD3, fun p1 n1 => ⟨len2, fun p2 n2 => ?_⟩⟩⟩
          have k1 := same_upd (o := .tup ((pt ts xs (1 + (i : Nat))).map V.int)) n1
          have h1 : upd H6 p1 (.tup ((pt ts xs (1 + (i : Nat))).map V.int)) p1 = some (.tup ((pt ts xs (1 + (i : Nat))).map V.int)) := upd_same
          have k2 := same_upd (o := .tup [.int (1 + (i : Nat)), .ref p1]) n2
          have h2 : upd (upd H6 p1 (.tup ((pt ts xs (1 + (i : Nat))).map V.int))) p2 (.tup [.int (1 + (i : Nat)), .ref p1]) p2 = some (.tup [.int (1 + (i : Nat)), .ref p1]) := upd_same
          have s57 := (s6.trans k1).trans k2
          have h17 := k2 _ _ h1
          have hl7 := s57 _ _ hl5
          refine ⟨l, _, _, rfl, rfl, hl7, small1000 (by omega), _, us ++ [.ref p2], rfl, same_at (sm5.trans s57) nlH, by rw [upd_ne nlD]; exact s57 _ _ hD5, by rw [upd_ne nlD2]; exact s57 _ _ hD25, upd_same, by rw [List.length_append, List.length_singleton]; omega, ?_⟩
          rw [mkI_succ, if_pos (by simp [hm]), List.map_append]
          exact (al5.mono fun v y k => k.tk ((TK.of s57).trans (.put hl7))).app ⟨p2, .ref p1, rfl, TK.put hl7 _ _ h2, ⟨p1, rfl, TK.put hl7 _ _ h17⟩⟩
      · refine ite2 (fun z => absurd (of_decide_eq_true z) hm) (fun _ => ?_)
        by_cases h12 : i = 11
        · refine ⟨_, rfl, rfl, _, rfl, ite2 (fun _ => ?_) (fun z => absurd (by subst h12; rfl) z)⟩
          have e12 : (1 : Int) + (i : Nat) = 12 := by omega
          refine ⟨_, rfl, .inl ⟨rfl, _, sq_lst hl5⟩, _, rfl, _, rfl, pt', _, rfl, .inr (sq_tup (sm5 _ _ hpt)), _, rfl, by rw [List.length_map]; omega, by rw [List.length_map]; omega, ?_⟩
          rw [List.length_map]
          refine fun D3 nD3 => lc_range (lo := 0) (n := ((ts.length : Nat) : Int).toNat) (fun j H' => H' D3 = some (.lst ((((ts.zip xs).take j).map (ptF (1 + (i : Nat)))).map V.int)) ∧ Same H5 H') ⟨upd_same, same_upd nD3⟩ (fun j H6 hj hI => ?_) (fun H6 hI => ?_)
          · obtain ⟨hD3, s6⟩ := hI
            rw [Int.toNat_natCast] at hj
            rw [show ((0 : Int) + (j : Nat)) = (j : Int) by omega]
            obtain ⟨t, x, ht, hx, pt1⟩ := at_t hj
            have tb : -1 ≤ t ∧ t ≤ 1 := by rcases pt1 with rfl | rfl <;> decide
            refine ⟨rfl, _, rfl, _, rfl, pt', _, _, .int t, rfl, rfl, sq_tup (s6 _ _ (sm5 _ _ hpt)), atI_nat (by rw [List.getElem?_map, ht]; rfl), _, rfl, _, rfl, D, _, _, .int (t * x / 12), rfl, rfl, sq_lst (s6 _ _ hD5), atI_nat (by rw [List.getElem?_map]; unfold bs; rw [List.getElem?_map, zip_at ht hx]; rfl), _, rfl, _, rfl, D2, _, _, .int (abF (t, x)), rfl, rfl, sq_lst (s6 _ _ hD25), atI_nat (by rw [List.getElem?_map]; unfold ab; rw [List.getElem?_map, zip_at ht hx]; rfl), _, rfl, _, _, rfl, rfl, _, rfl, ite2 (fun c => ?_) (fun c => ?_)⟩
            · have c : (1 : Int) + (i : Nat) ≤ abF (t, x) := of_decide_eq_true c
              refine ⟨_, _, rfl, rfl, _, _, rfl, rfl, .inl ⟨by omega, by omega⟩, _, hD3, small1000 (by rw [List.length_map, List.length_map, List.length_take]; omega), ?_, same_at s6 nD3⟩
              rw [upd_same, take_one (zip_at ht hx), List.map_append, List.map_append, show ((ts.zip xs).take j).map (ptF (1 + (i : Nat))) = _ from rfl, List.map_cons, show ptF (1 + (i : Nat)) (t, x) = t * (t * x / 12 + 1) by unfold ptF; rw [if_pos c]]; rfl
            · have c : ¬ (1 : Int) + (i : Nat) ≤ abF (t, x) := fun z => c (decide_eq_true z)
              refine ⟨_, _, rfl, rfl, _, _, rfl, rfl, .inl ⟨by omega, by omega⟩, _, hD3, small1000 (by rw [List.length_map, List.length_map, List.length_take]; omega), ?_, same_at s6 nD3⟩
              rw [upd_same, take_one (zip_at ht hx), List.map_append, List.map_append, List.map_cons, show ptF (1 + (i : Nat)) (t, x) = t * (t * x / 12 + 0) by unfold ptF; rw [if_neg c]]; rfl
          obtain ⟨hD3, s6⟩ := hI
          rw [Int.toNat_natCast, List.take_of_length_le (by rw [List.length_zip]; omega)] at hD3
          refine ⟨D3, _, rfl, .inl ⟨sq_lst hD3, fun p1 n1 => ⟨len2, fun p2 n2 => ?_⟩⟩⟩
          have k1 := same_upd (o := .tup ((pt ts xs (1 + (i : Nat))).map V.int)) n1
          have h1 : upd H6 p1 (.tup ((pt ts xs (1 + (i : Nat))).map V.int)) p1 = some (.tup ((pt ts xs (1 + (i : Nat))).map V.int)) := upd_same
          have k2 := same_upd (o := .tup [.int (1 + (i : Nat)), .ref p1]) n2
          have h2 : upd (upd H6 p1 (.tup ((pt ts xs (1 + (i : Nat))).map V.int))) p2 (.tup [.int (1 + (i : Nat)), .ref p1]) p2 = some (.tup [.int (1 + (i : Nat)), .ref p1]) := upd_same
          have s57 := (s6.trans k1).trans k2
          have h17 := k2 _ _ h1
          have hl7 := s57 _ _ hl5
          refine ⟨l, _, _, rfl, rfl, hl7, small1000 (by omega), _, us ++ [.ref p2], rfl, same_at (sm5.trans s57) nlH, by rw [upd_ne nlD]; exact s57 _ _ hD5, by rw [upd_ne nlD2]; exact s57 _ _ hD25, upd_same, by rw [List.length_append, List.length_singleton]; omega, ?_⟩
          rw [mkI_succ, if_pos (by simp [e12]), List.map_append]
          exact (al5.mono fun v y k => k.tk ((TK.of s57).trans (.put hl7))).app ⟨p2, .ref p1, rfl, TK.put hl7 _ _ h2, ⟨p1, rfl, TK.put hl7 _ _ h17⟩⟩
        · refine ⟨_, rfl, rfl, _, rfl, ite2 (fun z => absurd (V.int.inj (of_decide_eq_true z)) (by omega)) (fun _ => ?_)⟩
          refine ⟨_, us, rfl, sm5, hD5, hD25, hl5, by omega, ?_⟩
          rw [mkI_succ, if_neg (by simp only [hm, decide_false, Bool.false_or, decide_eq_true_eq]; omega)]
          exact al5
    · obtain ⟨y5, us, rfl, sm5, hD5, hD25, hl5, ul5, al5⟩ := hI
      exact ⟨_, rfl, fin _ l us sm5 hl5 al5⟩
end
end M57

namespace M57
open PySem PySem.Spec PyProof.Rows L2 SX Own Gd
open C8 (Cal pe_c pe_gc pe_mk Mak pss_cut)
section
variable {P : Program} {w : World} {K : PySem.W.Frag} {mg : Str → Option Value} {base : Heap} {aW aT : Addr} {es : Array DictEntry} {nn : Nat}
abbrev s_Lkeeps : Stmt := topS 52
abbrev n_Lkeeps : List Str := ["unknowns", "rows", "point", "k", "word", "amounts", "equal", "bound", "total"]
theorem sc_Lkeeps : FnScope n_Lkeeps ["unknowns", "rows", "point"] (defScope s_Lkeeps) := ⟨rfl, rfl, rfl, by decide +kernel, rfl, by decide +kernel, by decide +kernel⟩
def spKeeps : Sp := fun vs H Q _ => ∃ (uv rv xv : V) (ul : List Unk) (rl : List Row) (x : List Int), vs = [uv, rv, xv] ∧ UsV H uv ul ∧ RsV H rv rl ∧ LV H xv x ∧ ul.length ≤ 100 ∧ (∀ r ∈ rl, r.am.length = ul.length ∧ Sm 1000 r.am) ∧ x.length = ul.length ∧
  (∀ (k : Nat) u c, ul[k]? = some u → x[k]? = some c → u.2.1 ≤ c ∧ c ≤ u.2.2) ∧ (∀ r ∈ rl, r.bd ≤ dot r.am x ∧ (r.eq = true → dot r.am x = r.bd)) ∧ ∀ H', Same H H' → Q (.bl true) H'
theorem ok_Lkeeps {f : Addr} {fd : FuncData} (F : Fun K "_law_keeps" "_law_keeps" s_Lkeeps f fd) (T : Txt K mg w aW aT es nn) (c_Lsum : Cal P w K mg base 1 "_law_sum" spLSum []) : FnOk P w K mg base CX0 2 f fd ["unknowns", "rows", "point"] spKeeps := by
  refine F.ok sc_Lkeeps (fun vs H Q E h => ?_) (fun cdv A outer s H vs Q E hr h => ?_)
  · obtain ⟨uv, rv, xv, ul, rl, x, rfl, _⟩ := h
    rfl
  · obtain ⟨uv, rv, xv, ul, rl, x, rfl, ⟨pu, us, rfl, hpu, uvs⟩, ⟨pr, rs, rfl, hpr, rvs⟩, ⟨px, rfl, hpx⟩, u100, lam, lx, hU, hR, fin⟩ := h
    have lu := uvs.len
    have lr := rvs.len
    refine ⟨_, (pss_cons (ps_for PassesOwn.never rfl (pi_range1 (by rfl) T.b_range (pa_cons (pe_callB call_len_seq (by rfl) T.b_len (by decide +kernel) (pa_cons (pv 0) pa_nil)) pa_nil)) (pg_name (i := 3) sc_Lkeeps.nd rfl (.inl rfl)) (pss_one (ps_if (pt_not (pt_chain op_le op_le (pe_ix ix_tup (pe_ix ix_tup (pv 0) (pv 3) (fun _ _ => rfl)) pe_int (fun _ _ => rfl)) (pe_ix ix_tup (pv 2) (pv 3) (fun _ _ => rfl)) (pe_ix ix_tup (pe_ix ix_tup (pv 0) (pv 3) (fun _ _ => rfl)) pe_int (fun _ _ => rfl)))) (pss_one (ps_ret pe_bl)) pss_nil)))
      (pss_cons (ps_for PassesOwn.never rfl (pi_tup (pv 1)) (pg_tup rfl (pgs_cons (pg_name (i := 4) sc_Lkeeps.nd rfl (.inl rfl)) (pgs_cons (pg_name (i := 5) sc_Lkeeps.nd rfl (.inl rfl)) (pgs_cons (pg_name (i := 6) sc_Lkeeps.nd rfl (.inl rfl)) (pgs_cons (pg_name (i := 7) sc_Lkeeps.nd rfl (.inl rfl)) pgs_nil))))) (pss_cons (ps_set (i := 8) sc_Lkeeps.nd rfl (.inl rfl) (pe_c c_Lsum hr (by decide) (by rfl) (pa_cons (pv 5) (pa_cons (pv 2) pa_nil))))
        (pss_one (ps_if (PW.pt (pw_or (pt_cmpR op_lt (pv 8) (pv 7) (nomark _)) (pw_or1 (PW.pt (pw_and (pt_val (pv 6)) (pw_and1 (pt_cmpR op_ne (pv 8) (pv 7) (nomark _)))))))) (pss_one (ps_ret pe_bl)) pss_nil))))
      (pss_one (ps_ret pe_bl)))), ?_⟩
    refine ⟨_, rfl, pu, us, rfl, .inr (sq_tup hpu), _, rfl, by omega, by omega, for_range (lo := 0) (n := ((us.length : Nat) : Int).toNat) (fun i σ H' => ∃ y3, σ = [some (.ref pu), some (.ref pr), some (.ref px), y3, none, none, none, none, none] ∧ H' = H)
      ⟨none, rfl, rfl⟩ (fun i σ H2 hi hI => ?_) (fun σ H2 hI => ?_)⟩
    · obtain ⟨y3, rfl, rfl⟩ := hI
      rw [Int.toNat_natCast] at hi
      rw [show ((0 : Int) + (i : Nat)) = (i : Int) by omega]
      have hu : ul[i]? = some (ul[i]'(by omega)) := List.getElem?_eq_getElem (by omega)
      have hc : x[i]? = some (x[i]'(by omega)) := List.getElem?_eq_getElem (by omega)
      obtain ⟨c1, c2⟩ := hU i _ _ hu hc
      obtain ⟨v2, hv2, pz, rfl, hpz⟩ := uvs.at2 hu
      generalize x[i]'(by omega) = c at *
      generalize ul[i]'(by omega) = u at *
      refine ⟨_, rfl, _, rfl, pu, _, _, .ref pz, rfl, rfl, sq_tup hpu, atI_nat hv2, pz, _, 1, _, rfl, rfl, sq_tup hpz, rfl, _, rfl, _, rfl, px, _, _, .int c, rfl, rfl, sq_tup hpx, atI_nat (by rw [List.getElem?_map, hc]; rfl), _, _, rfl, rfl, _, rfl, ?_⟩
      rw [if_pos (decide_eq_true c1)]
      refine ⟨_, rfl, _, rfl, pu, _, _, .ref pz, rfl, rfl, sq_tup hpu, atI_nat hv2, pz, _, 2, _, rfl, rfl, sq_tup hpz, rfl, _, _, rfl, rfl, _, rfl, ?_⟩
      rw [decide_eq_true c2]
      exact iteF ⟨_, rfl, rfl⟩
    · obtain ⟨y3, rfl, rfl⟩ := hI
      refine ⟨_, rfl, pr, rfl, ⟨_, sq_tup hpr⟩, for_tup (K := K) (a := pr) (xs := rs) (fun i σ H' => ∃ y3 y4 y5 y6 y7 y8, σ = [some (.ref pu), some (.ref pr), some (.ref px), y3, y4, y5, y6, y7, y8] ∧ Same H2 H')
        ⟨_, none, none, none, none, none, rfl, Same.refl _⟩ (fun i σ H' _ h => by obtain ⟨_, _, _, _, _, _, _, sm⟩ := h; exact sq_tup (sm _ _ hpr)) (fun i v σ H' hv h => ?_) (fun σ H' h => ?_)⟩
      · obtain ⟨z3, z4, z5, z6, z7, z8, rfl, sm⟩ := h
        obtain ⟨r, hr', p, qa, rfl, hp, hqa⟩ := rvs.at_ hv
        have mr := List.mem_of_getElem? hr'
        obtain ⟨l1, b1⟩ := lam r mr
        obtain ⟨t1, t2⟩ := hR r mr
        refine ⟨p, _, rfl, sq_tup (sm _ _ hp), rfl, _, _, rfl, _, _, rfl, _, _, rfl, _, _, rfl, rfl, ?_⟩
        refine ⟨_, rfl, _, rfl, .ref qa, .ref px, r.am, x, rfl, ⟨qa, rfl, .inr (sm _ _ hqa)⟩, ⟨px, rfl, .inr (sm _ _ hpx)⟩, by omega, by omega, b1, fun H3 s3 => ?_⟩
        have sm3 := sm.trans s3
        refine ⟨_, rfl, _, rfl, _, _, rfl, rfl, _, rfl, ite2 (fun h => absurd (show dot r.am x < r.bd from of_decide_eq_true h) (by omega)) (fun _ => ?_)⟩
        cases he : r.eq with
        | false => exact ⟨_, rfl, false, rfl, iteF (iteF ⟨_, _, _, _, _, _, rfl, sm3⟩)⟩
        | true =>
          have e1 := t2 he
          exact ⟨_, rfl, true, rfl, iteT ⟨_, rfl, _, rfl, rfl, _, rfl, ite2 (fun h => absurd h (by simp [e1])) (fun _ => ⟨_, _, _, _, _, _, rfl, sm3⟩)⟩⟩
      · obtain ⟨z3, z4, z5, z6, z7, z8, rfl, sm⟩ := h
        exact fin _ sm
abbrev s_Lare_turns : Stmt := topS 56
abbrev n_Lare_turns : List Str := ["told", "many", "one"]
theorem sc_Lare_turns : FnScope n_Lare_turns ["told", "many"] (defScope s_Lare_turns) := ⟨rfl, rfl, rfl, by decide +kernel, rfl, by decide +kernel, by decide +kernel⟩
def spAre : Sp := fun vs H Q _ => ∃ (tv : V) (ts : List Int), vs = [tv, .int (ts.length : Nat)] ∧ LV H tv ts ∧ ts.length ≤ 100 ∧ Pm ts ∧ ∀ H', Same H H' → Q (.bl true) H'
theorem ok_Lare {f : Addr} {fd : FuncData} (F : Fun K "_law_are_turns" "_law_are_turns" s_Lare_turns f fd) (T : Txt K mg w aW aT es nn) : FnOk P w K mg base CX0 1 f fd ["told", "many"] spAre := by
  refine F.ok sc_Lare_turns (fun vs H Q E h => ?_) (fun cdv A outer s H vs Q E hr h => ?_)
  · obtain ⟨tv, ts, rfl, _⟩ := h
    rfl
  · obtain ⟨tv, ts, rfl, ⟨p, rfl, hp⟩, l100, pm, fin⟩ := h
    refine ⟨_, (pss_cons (ps_if (PW.pt (pw_or (pt_not (pt_val (pe_callB call_isE (by rfl) T.b_isinstance (by decide +kernel) (pa_cons (pv 0) (pa_cons (pe_bltn (v := .ty "tuple") (by rfl) T.b_tuple boot_tuple rfl) pa_nil))))) (pw_or1 (pt_cmpR op_ne (pe_callB call_len_seq (by rfl) T.b_len (by decide +kernel) (pa_cons (pv 0) pa_nil)) (pv 1) (nomark _))))) (pss_one (ps_ret pe_bl)) pss_nil)
      (pss_one (ps_ret (pe_cmpR (op_eqD hr.units) (pe_lc (own := [("one", 2)]) rfl sc_Lare_turns.nd (pi_tup (pv 0)) (blkOk_by (N := n_Lare_turns) (sc := defScope s_Lare_turns) (by decide +kernel)) (fun _ _ _ _ _ => (pg_name (i := 2) sc_Lare_turns.nd rfl (.inl rfl))) (fun _ _ _ _ _ => (pts_one (pt_cmpR (r := rIn K true) op_notIn_seq (pe_callB SkE.call_repr_int (by rfl) T.b_repr (by decide +kernel) (pa_cons (pv 2) pa_nil)) (pe_lst (pa_cons pe_str (pa_cons pe_str pa_nil))) (by rfl)))) (fun _ _ _ _ _ => (pv 2))) (pe_lst pa_nil) (nomark _))))), ?_⟩
    refine ⟨_, rfl, .ref p, .type "tuple", "tuple", true, rfl, .base (.base (.tup hp)), by rfl, true, rfl, iteF ?_⟩
    refine ⟨_, rfl, p, _, rfl, .inr (sq_tup hp), _, rfl, rfl, _, rfl, ite2 (fun h => absurd h (by simp)) (fun _ => ?_)⟩
    refine ⟨_, rfl, p, rfl, ⟨_, sq_tup hp⟩, fun D nD => ?_⟩
    refine lc_tup (K := K) (a := p) (xs := ts.map V.int) (fun i H' => H' D = some (.lst []) ∧ Same H H') ⟨upd_same, same_upd nD⟩ (fun i H' _ h => sq_tup (h.2 _ _ hp)) ?_ ?_
    · rintro i x H2 hx ⟨hD, sm⟩
      obtain ⟨t, ht, rfl⟩ := at_map hx
      have tt := pm t (List.mem_of_getElem? ht)
      refine ⟨rfl, _, rfl, t, rfl, ?_, len2, fun q nq => ⟨q, _, rfl, .inl (sq_lst upd_same), rfl, rfl, _, rfl, ?_⟩⟩
      · rcases tt with rfl | rfl <;> decide
      · have e : (!inV (V.str (Str.ofString (toString t))) [V.str "1", V.str "-1"]) = false := by rcases tt with rfl | rfl <;> decide
        exact ite2 (fun z => absurd (e.symm.trans z) (by decide)) (fun _ => ⟨same_upd nq _ _ hD, sm.trans (same_upd nq)⟩)
    · rintro H2 ⟨hD, sm⟩
      refine ⟨nil_ok, fun q nq => ⟨_, _, .lst (sq_lst (same_upd nq _ _ hD)) .nil, .lst (sq_lst upd_same) .nil, shp_ints [], shp_ints [], ?_⟩⟩
      have e : PyData.eqv (.list []) (.list []) = true := by simp [PyData.eqv, PyData.eqvAll]
      rw [e]
      exact fin _ (sm.trans (same_upd nq))
end
end M57

namespace M57
open PySem PySem.Spec PyProof.Rows L2 SX Own Gd
open C8 (Cal pe_c pe_gc pe_mk Mak pss_cut)
/-! ### data shown -/
def dI (a : List Int) : PyData := .tuple (a.map PyData.int)
theorem dpAllI {K : PySem.W.Frag} {H : Hp} : ∀ a : List Int, DpAll K H (a.map V.int) (a.map PyData.int)
  | [] => .nil
  | c :: a => .cons (.int c) (dpAllI a)
theorem dpI {K : PySem.W.Frag} {H : Hp} {q : Addr} {a : List Int} (e : H q = some (tI a)) : Dp K H (.ref q) (dI a) := .tup (sq_tup e) (dpAllI a)
theorem layI : ∀ a : List Int, PyData.canLayAll0 (a.map PyData.int) = true
  | [] => by simp [PyData.canLayAll0]
  | c :: a => by simp [PyData.canLayAll0, PyData.canLay0, layI a]
theorem depI : ∀ a : List Int, PyData.depthAll (a.map PyData.int) ≤ 1
  | [] => by simp [PyData.depthAll]
  | c :: a => by
    have := depI a
    simp only [List.map_cons, PyData.depthAll, PyData.depth]; omega
theorem shpI (a : List Int) : SeqAt.shaped (dI a) = true := by
  have := depI a
  unfold SeqAt.shaped dI
  rw [Bool.and_eq_true]
  refine ⟨by simp only [PyData.canLay0]; exact layI a, decide_eq_true ?_⟩
  simp only [PyData.depth]; omega
def Sh12 (c : Int) : Prop := c.natAbs < 10 ^ 12
/-- data that can be shown -/
structure DS (W : Nat) (d : PyData) : Prop where
  s : d.showable = true
  n : d.hasDict = false
  p : d.depth ≤ 60
  l : d.leavesShort 13 = true
  w : d.weight ≤ W
theorem DS.fits {d : PyData} {W : Nat} (h : DS W d) (hW : W ≤ 1000000) : d.shown.length ≤ sizeLine := PyData.shown_fits (B := 13) (by decide) (by decide) h.l (Nat.le_trans h.w (Nat.le_trans hW (by decide)))
theorem log12 {c : Int} (h : Sh12 c) : c.natAbs.log2 < 40 := PySem.Flt.log2_lt_of (by decide) (Nat.lt_trans h (by decide))
theorem intW {c : Int} (h : Sh12 c) : (PyData.int c).weight ≤ 40 := by
  simp only [PyData.weight]
  have := log12 h
  split <;> omega
theorem intL {c : Int} (h : Sh12 c) : (PyData.int c).leavesShort 13 = true := by
  simp only [PyData.leavesShort]
  exact decide_eq_true (PyData.shown_int_le h)
theorem intsS : ∀ {a : List Int}, (∀ c ∈ a, Sh12 c) → PyData.showableAll (a.map .int) = true ∧ PyData.hasDictAll (a.map .int) = false ∧ PyData.depthAll (a.map .int) = 0 ∧ PyData.leavesShortAll 13 (a.map .int) = true ∧ PyData.weightAll (a.map .int) ≤ 41 * a.length
  | [], _ => by simp [PyData.showableAll, PyData.hasDictAll, PyData.depthAll, PyData.leavesShortAll, PyData.weightAll]
  | c :: a, h => by
    obtain ⟨h1, h2, h3, h4, h5⟩ := intsS (a := a) fun d hd => h d (List.mem_cons_of_mem _ hd)
    have hc := h c (List.mem_cons_self ..)
    have w := intW hc
    have g := log12 hc
    refine ⟨?_, ?_, ?_, ?_, ?_⟩
    · simp only [List.map_cons, PyData.showableAll, PyData.showable, h1, Bool.and_true]; exact decide_eq_true (by omega)
    · simp only [List.map_cons, PyData.hasDictAll, PyData.hasDict, h2, Bool.or_false]
    · simp only [List.map_cons, PyData.depthAll, PyData.depth, h3]; rfl
    · simp only [List.map_cons, PyData.leavesShortAll, intL hc, h4, Bool.and_true]
    · simp only [List.map_cons, PyData.weightAll, List.length_cons]; omega
theorem showD {K : PySem.W.Frag} {H : Hp} {Q : VK} {a : Addr} {d : PyData} {W : Nat} (e : Dp K H (.ref a) d) (h : DS W d) (hW : W ≤ 1000000) (q : Q (.str d.shown) H) : rShow K [.ref a] H Q := ⟨a, d, rfl, e, h.s, h.n, h.p, h.fits hW, q⟩
theorem intsT {a : List Int} (h : ∀ c ∈ a, Sh12 c) (l : a.length ≤ 100) : DS 41100 (dI a) := by
  obtain ⟨h1, h2, h3, h4, h5⟩ := intsS h
  unfold dI
  refine ⟨?_, ?_, ?_, ?_, ?_⟩
  · simp only [PyData.showable, h1]
  · simp only [PyData.hasDict, h2]
  · simp only [PyData.depth, h3]; omega
  · simp only [PyData.leavesShort, h4]
  · simp only [PyData.weight]; omega
/-- repr of a tuple of integers or None -/
def rShowN (K : PySem.W.Frag) : List V → Hp → VK → Prop := fun xs H Q => rShow K xs H Q ∨ (xs = [.non] ∧ Q (.str "None") H)
theorem call_showN {X : Cx} (hgd : X.A.guards = some []) (hu : X.A.units + 64 < cLine) : CallR X (.builtin "repr") (rShowN X.K) := by
  intro pins s σ H xs us Q I r h
  rcases h with h | ⟨rfl, q⟩
  · exact call_show hgd hu pins s σ H xs us Q I r h
  · obtain ⟨u, rfl, r1⟩ := vals1 r
    cases (show u = Value.none from r1)
    exact PySem.P.repr_of_none ⟨.str "None", H, I.tok _, ⟨_, rfl⟩, q⟩
theorem shownI {K : PySem.W.Frag} {H : Hp} {Q : VK} {v : V} {a : List Int} (lv : LV H v a) (h : ∀ c ∈ a, Sh12 c) (l : a.length ≤ 100) (q : Q (.str (dI a).shown) H) : rShowN K [v] H Q := by
  obtain ⟨p, rfl, e⟩ := lv
  exact .inl (showD (dpI e) (intsT h l) (by decide) q)

theorem eqvAllI : ∀ a b : List Int, PyData.eqvAll (a.map PyData.int) (b.map PyData.int) = decide (a = b)
  | [], [] => by simp [PyData.eqvAll]
  | [], _ :: _ => by simp [PyData.eqvAll]
  | _ :: _, [] => by simp [PyData.eqvAll]
  | c :: a, d :: b => by
    simp only [List.map_cons, PyData.eqvAll, PyData.eqv, eqvAllI a b]
    by_cases h : c = d <;> by_cases h2 : a = b <;> simp [h, h2]
theorem eqvI (a b : List Int) : PyData.eqv (dI a) (dI b) = decide (a = b) := by
  unfold dI
  simp only [PyData.eqv, eqvAllI]
theorem eqvL (a b : List Int) : PyData.eqv (.list (a.map PyData.int)) (.list (b.map PyData.int)) = decide (a = b) := by
  simp only [PyData.eqv, eqvAllI]
/-! ### turns that fit -/
def sgv (ts : List Int) (r : Row) (k : Nat) : Int := cf r k * ts.getD k 0
def fitR (ts : List Int) (r : Row) : Bool := okR r && (match nzl r with
  | [a, b] => decide (sgv ts r a + sgv ts r b = 0)
  | _ => true)
def fitW (ts : List Int) : Wish → Bool
  | .sum r => fitR ts r
  | _ => false
def WsV (H : Hp) (v : V) (wl : List Wish) : Prop := ∃ p us, v = .ref p ∧ H p = some (.tup us) ∧ WVs H us wl
theorem sgv_abs {ts : List Int} {r : Row} {k : Nat} (h : Pm ts) (hk : k < ts.length) : (sgv ts r k).natAbs = (cf r k).natAbs := by
  unfold sgv
  rw [List.getD_eq_getElem?_getD, List.getElem?_eq_getElem hk]
  rcases h _ (List.getElem_mem hk) with e | e
  · show (cf r k * ts[k]).natAbs = _
    rw [e, Int.mul_one]
  · show (cf r k * ts[k]).natAbs = _
    rw [e]; omega
theorem nzi_lt {am : List Int} {i k : Nat} (h : k ∈ nzi am i) : k < i := List.mem_range.mp (List.mem_filter.mp h).1
section
variable {P : Program} {w : World} {K : PySem.W.Frag} {mg : Str → Option Value} {base : Heap} {aW aT : Addr} {es : Array DictEntry} {nn : Nat}
abbrev s_Lfit : Stmt := topS 53
abbrev n_Lfit : List Str := ["wishes", "turns", "wish", "signs", "k", "sign"]
theorem sc_Lfit : FnScope n_Lfit ["wishes", "turns"] (defScope s_Lfit) := ⟨rfl, rfl, rfl, by decide +kernel, rfl, by decide +kernel, by decide +kernel⟩
def spFit : Sp := fun vs H Q _ => ∃ (wv tv : V) (wl : List Wish) (ts : List Int), vs = [wv, tv] ∧ WsV H wv wl ∧ AV H tv ts ∧ Pm ts ∧ ts.length ≤ 100 ∧ (∀ r, Wish.sum r ∈ wl → r.am.length = ts.length ∧ Sm 1000 r.am) ∧ ∀ H', Same H H' → Q (.bl (wl.all (fitW ts))) H'
theorem ok_Lfit {f : Addr} {fd : FuncData} (F : Fun K "_law_fit" "_law_fit" s_Lfit f fd) (T : Txt K mg w aW aT es nn) : FnOk P w K mg base CX0 1 f fd ["wishes", "turns"] spFit := by
  refine F.ok sc_Lfit (fun vs H Q E h => ?_) (fun cdv A outer s H vs Q E hr h => ?_)
  · obtain ⟨wv, tv, wl, ts, rfl, _⟩ := h
    rfl
  · obtain ⟨wv, tv, wl, ts, rfl, ⟨pw, ws, rfl, hpw, wvs⟩, ⟨pt', rfl, hpt⟩, pm, l100, rok, fin⟩ := h
    have lw := wvs.len
    refine ⟨_, (pss_cons (ps_for PassesOwn.never rfl (pi_tup (pv 0)) (pg_name (i := 2) sc_Lfit.nd rfl (.inr rfl)) (pss_cons (ps_if (pt_cmpR op_ne (pe_ix ix_tup (pv 2) pe_int (fun _ _ => rfl)) pe_str (nomark _)) (pss_one (ps_ret pe_bl)) pss_nil)
        (pss_cons (ps_setLc (i := 3) (own := [("k", 4)]) rfl sc_Lfit.nd rfl rfl (sw_true rfl rfl rfl (by decide +kernel)) (pi_range1 (by rfl) T.b_range (pa_cons (pe_callB call_len_seq (by rfl) T.b_len (by decide +kernel) (pa_cons (pv 1) pa_nil)) pa_nil)) (blkOk_by (N := n_Lfit) (sc := defScope s_Lfit) (by decide +kernel)) (fun _ _ _ _ _ => (pg_name (i := 4) sc_Lfit.nd rfl (.inl rfl))) (fun _ _ _ _ _ => (pts_one (pt_cmpR op_ne (pe_ix (r := rIxT K) ix_tup (pe_ix (r := rIxT K) ix_tup (pv 2) pe_int (fun _ _ => rfl)) (pv 4) (fun _ _ => rfl)) pe_int (nomark _)))) (fun _ _ _ _ _ => (pe_op op_mul (pe_ix (r := rIxT K) ix_tup (pe_ix (r := rIxT K) ix_tup (pv 2) pe_int (fun _ _ => rfl)) (pv 4) (fun _ _ => rfl)) (pe_ix (r := rIxA K) ix_any (pv 1) (pv 4) (fun _ _ => rfl)))))
        (pss_one (ps_if (PW.pt (pw_or (pt_cmpR op_gt (pe_callB call_len_seq (by rfl) T.b_len (by decide +kernel) (pa_cons (pv 3) pa_nil)) pe_int (nomark _)) (pw_or (pt_cmpR (op_neD hr.units) (pe_lc (own := [("sign", 5)]) rfl sc_Lfit.nd (pi_list (pv 3)) (blkOk_by (N := n_Lfit) (sc := defScope s_Lfit) (by decide +kernel)) (fun _ _ _ _ _ => (pg_name (i := 5) sc_Lfit.nd rfl (.inl rfl))) (fun _ _ _ _ _ => (pts_one (pt_cmpR op_ne (pe_callB call_abs (by rfl) T.b_abs (by decide +kernel) (pa_cons (pv 5) pa_nil)) pe_int (nomark _)))) (fun _ _ _ _ _ => (pv 5))) (pe_lst pa_nil) (nomark _)) (pw_or1 (PW.pt (pw_and (pt_cmpR op_eq (pe_callB call_len_seq (by rfl) T.b_len (by decide +kernel) (pa_cons (pv 3) pa_nil)) pe_int (nomark _)) (pw_and1 (pt_cmpR op_ne (pe_callB (cr_sum rfl) (by rfl) T.b_sum (by decide +kernel) (pa_cons (pv 3) pa_nil)) pe_int (nomark _))))))))) (pss_one (ps_ret pe_bl)) pss_nil)))))
      (pss_one (ps_ret pe_bl))), ?_⟩
    have bad : ∀ {i : Nat} {z : Wish}, wl[i]? = some z → fitW ts z = false → wl.all (fitW ts) = false := fun h e => by
      rw [List.all_eq_false]
      exact ⟨_, List.mem_of_getElem? h, by rw [e]; decide⟩
    refine ⟨_, rfl, pw, rfl, ⟨_, sq_tup hpw⟩, for_tup (K := K) (a := pw) (xs := ws) (fun i σ H' => ∃ y2 y3, σ = [some (.ref pw), some (.ref pt'), y2, y3, none, none] ∧ Same H H' ∧ (wl.take i).all (fitW ts) = true)
      ⟨none, none, rfl, Same.refl _, rfl⟩ (fun i σ H' _ h => by obtain ⟨_, _, _, s, _⟩ := h; exact sq_tup (s _ _ hpw)) (fun i v σ H3 hv h => ?_) (fun σ H3 h => ?_)⟩
    · obtain ⟨y2, y3, rfl, sm3, all3⟩ := h
      obtain ⟨wi, hwi, wvi⟩ := wvs.at_ hv
      have wv3 := wvi.same sm3
      have at1 : (wl.take (i + 1)).all (fitW ts) = fitW ts wi := by rw [take_one hwi, List.all_append, all3]; simp
      cases wi with
      | sum r =>
        obtain ⟨ram, rsm⟩ := rok r (List.mem_of_getElem? hwi)
        obtain ⟨pw1, qa, rfl, hp1, hqa⟩ := wv3
        have hpt3 : H3 pt' = some (tL ts) ∨ H3 pt' = some (tI ts) := hpt.elim (fun e => .inl (sm3 _ _ e)) fun e => .inr (sm3 _ _ e)
        refine ⟨_, rfl, pw1, _, 0, _, rfl, rfl, sq_tup hp1, rfl, rfl, _, rfl, iteF ?_⟩
        refine ⟨_, rfl, pt', _, rfl, AV.seq hpt3, _, rfl, by rw [List.length_map]; omega, by rw [List.length_map]; omega, ?_⟩
        rw [List.length_map]
        refine fun D nD => lc_range (lo := 0) (n := ((ts.length : Nat) : Int).toNat) (fun i H' => H' D = some (.lst (((nzi r.am i).map (sgv ts r)).map V.int)) ∧ Same H3 H') ⟨upd_same, same_upd nD⟩ (fun j H4 hj hI => ?_) (fun H4 hI => ?_)
        · obtain ⟨hD, s4⟩ := hI
          rw [Int.toNat_natCast] at hj
          rw [show ((0 : Int) + (j : Nat)) = (j : Int) by omega]
          have hc : r.am[j]? = some (cf r j) := by
            unfold cf
            rw [List.getD_eq_getElem?_getD, List.getElem?_eq_getElem (by omega)]; rfl
          have ht : ts[j]? = some (ts.getD j 0) := by rw [List.getD_eq_getElem?_getD, List.getElem?_eq_getElem hj]; rfl
          have bc := rsm.at_ hc
          have ln := nzi_len r.am j
          have hpt4 : H4 pt' = some (tL ts) ∨ H4 pt' = some (tI ts) := hpt3.elim (fun e => .inl (s4 _ _ e)) fun e => .inr (s4 _ _ e)
          refine ⟨rfl, _, rfl, pw1, _, 1, _, rfl, rfl, sq_tup (s4 _ _ hp1), rfl, _, rfl, qa, _, _, _, rfl, rfl, sq_tup (s4 _ _ hqa), atI_nat (by rw [List.getElem?_map, hc]; rfl), rfl, _, rfl, ite2 (fun z => ?_) (fun z => ?_)⟩
          · have z : r.am.getD j 0 ≠ 0 := fun e => by
              have e : cf r j = 0 := e
              rw [e] at z; simp at z
            refine ⟨_, rfl, pw1, _, 1, _, rfl, rfl, sq_tup (s4 _ _ hp1), rfl, _, rfl, qa, _, _, _, rfl, rfl, sq_tup (s4 _ _ hqa), atI_nat (by rw [List.getElem?_map, hc]; rfl), _, rfl, _, rfl, pt', _, _, _, rfl, rfl, AV.seq hpt4, atI_nat (by rw [List.getElem?_map, ht]; rfl), _, _, rfl, rfl, .inl ⟨by omega, by omega⟩, _, hD, small1000 (by rw [List.length_map, List.length_map]; omega), ?_, same_at s4 nD⟩
            rw [upd_same, nzi_succ, if_pos z, List.map_append, List.map_append]; rfl
          · have z : r.am.getD j 0 = 0 := by
              have : cf r j = 0 := by simpa using z
              exact this
            refine ⟨?_, s4⟩
            rw [hD, nzi_succ, if_neg (fun h => h z)]
        obtain ⟨hD, s4⟩ := hI
        rw [Int.toNat_natCast, ← ram] at hD
        have hD : H4 D = some (.lst (((nzl r).map (sgv ts r)).map V.int)) := hD
        have s34 := sm3.trans s4
        refine ⟨_, rfl, D, _, rfl, .inl (sq_lst hD), _, _, rfl, rfl, _, rfl, ite2 (fun c => ?_) (fun c => ?_)⟩
        · have c : (2 : Int) < ((((nzl r).map (sgv ts r)).map V.int).length : Nat) := of_decide_eq_true c
          rw [List.length_map, List.length_map] at c
          have f0 : okR r = false := by
            unfold okR
            rw [decide_eq_false (show ¬ (nzl r).length ≤ 2 by omega), Bool.false_and]
          have := fin _ s34
          rw [bad hwi (show fitR ts r = false by unfold fitR; rw [f0, Bool.false_and])] at this
          exact iteT this
        · have c : (nzl r).length ≤ 2 := by
            have c : ¬ (2 : Int) < ((((nzl r).map (sgv ts r)).map V.int).length : Nat) := fun z => c (decide_eq_true z)
            rw [List.length_map, List.length_map] at c
            omega
          have ab1 : ∀ k ∈ nzl r, (sgv ts r k).natAbs = (cf r k).natAbs := fun k hk => sgv_abs pm (by have := nzl_lt hk; omega)
          refine ⟨_, rfl, D, rfl, ⟨_, sq_lst hD⟩, fun D2 nD2 => ?_⟩
          refine lc_list (K := K) (a := D) (xs := ((nzl r).map (sgv ts r)).map V.int) (fun i H' => ∃ os : List Int, H' D2 = some (.lst (os.map V.int)) ∧ Same H4 H' ∧ os.length ≤ i ∧ (os = [] ↔ ∀ k ∈ (nzl r).take i, (sgv ts r k).natAbs = 1)) ⟨[], upd_same, same_upd nD2, Nat.le_refl _, by simp⟩ (fun i H' _ h => by obtain ⟨_, _, s, _⟩ := h; exact sq_lst (s _ _ hD)) ?_ ?_
          · rintro j y H5 hy ⟨os, hD2, s5, ol, oe⟩
            obtain ⟨c2, hc2, rfl⟩ := at_map hy
            rw [List.getElem?_map] at hc2
            obtain ⟨k, hk, rfl⟩ := Option.map_eq_some_iff.mp hc2
            have lj := (List.getElem?_eq_some_iff.mp hk).1
            have e1 : (if sgv ts r k < 0 then -sgv ts r k else sgv ts r k) = ((sgv ts r k).natAbs : Int) := by split <;> omega
            have tkk : (∀ k' ∈ (nzl r).take (j + 1), (sgv ts r k').natAbs = 1) ↔ (∀ k' ∈ (nzl r).take j, (sgv ts r k').natAbs = 1) ∧ (sgv ts r k).natAbs = 1 := by
              rw [take_one hk]
              constructor
              · exact fun h => ⟨fun k' hk' => h k' (List.mem_append_left _ hk'), h k (List.mem_append_right _ (List.mem_singleton.mpr rfl))⟩
              · rintro ⟨h1, h2⟩ k' hk'
                rcases List.mem_append.mp hk' with h | h
                · exact h1 k' h
                · rw [List.mem_singleton.mp h]; exact h2
            refine ⟨rfl, _, rfl, _, rfl, rfl, _, rfl, ?_⟩
            rw [e1]
            refine ite2 (fun z => ?_) (fun z => ?_)
            · have z : (sgv ts r k).natAbs ≠ 1 := fun e => by rw [e] at z; simp at z
              refine ⟨_, rfl, _, hD2, small1000 (by rw [List.length_map]; omega), os ++ [sgv ts r k], ?_, same_at s5 nD2, ?_, ?_⟩
              · rw [upd_same, List.map_append]; rfl
              · rw [List.length_append, List.length_singleton]; omega
              · rw [tkk]
                exact ⟨fun h => absurd h (by simp), fun h => absurd h.2 z⟩
            · have z : (sgv ts r k).natAbs = 1 := by
                have : V.int ((sgv ts r k).natAbs : Int) = V.int 1 := by simpa using z
                have := V.int.inj this
                omega
              refine ⟨os, hD2, s5, by omega, ?_⟩
              rw [tkk, oe]
              exact ⟨fun h => ⟨h, z⟩, fun h => h.1⟩
          rintro H5 ⟨os, hD2, s5, ol, oe⟩
          rw [List.length_map, List.length_map] at oe
          rw [List.take_length] at oe
          refine ⟨nil_ok, fun q nq => ⟨_, _, .lst (sq_lst (same_upd nq _ _ hD2)) (dp_ints os), .lst (sq_lst upd_same) .nil, shp_ints os, shp_ints [], _, rfl, ?_⟩⟩
          have s6 := s5.trans (same_upd (o := .lst []) nq)
          have hD6 := s6 _ _ hD
          have s36 := s34.trans s6
          generalize upd H5 q (.lst []) = H6 at *
          rw [show PyData.eqv (.list (os.map PyData.int)) (.list []) = decide (os = []) from eqvL os []]
          by_cases ho : os = []
          · have ones := oe.mp ho
            have okr : okR r = true := by
              unfold okR
              rw [decide_eq_true c, Bool.true_and, List.all_eq_true]
              exact fun k hk => decide_eq_true ((ab1 k hk).symm.trans (ones k hk))
            rw [decide_eq_true ho]
            refine iteF ?_
            refine ⟨_, rfl, D, _, rfl, .inl (sq_lst hD6), rfl, _, rfl, ite2 (fun l2 => ?_) (fun l2 => ?_)⟩
            · have l2 : (nzl r).length = 2 := by
                have := V.int.inj (of_decide_eq_true l2)
                rw [List.length_map, List.length_map] at this
                omega
              obtain ⟨a, b, hab⟩ : ∃ a b, nzl r = [a, b] := by
                match h : nzl r, l2 with
                | [a, b], _ => exact ⟨a, b, rfl⟩
              have es : ((nzl r).map (sgv ts r)).sum = sgv ts r a + sgv ts r b := by rw [hab]; simp
              have ef : fitR ts r = decide (sgv ts r a + sgv ts r b = 0) := by unfold fitR; rw [okr, hab, Bool.true_and]
              refine ⟨_, rfl, D, _, rfl, sq_lst hD6, rfl, _, rfl, ?_⟩
              rw [es]
              by_cases z : sgv ts r a + sgv ts r b = 0
              · refine ite2 (fun h => absurd h (by rw [z]; decide)) (fun _ => ⟨_, _, rfl, s36, ?_⟩)
                rw [at1]
                show fitR ts r = true
                rw [ef, decide_eq_true z]
              · refine ite2 (fun _ => ?_) (fun h => absurd h (by simp [z]))
                have := fin _ s36
                rw [bad hwi (show fitR ts r = false by rw [ef, decide_eq_false z])] at this
                exact this
            · have l2 : (nzl r).length ≠ 2 := fun z => l2 (decide_eq_true (by rw [List.length_map, List.length_map, z]; rfl))
              refine ⟨_, _, rfl, s36, ?_⟩
              rw [at1]
              show fitR ts r = true
              unfold fitR
              rw [okr, Bool.true_and]
              split
              · rename_i e
                rw [e] at l2
                exact absurd rfl l2
              · rfl
          · rw [decide_eq_false ho]
            have f0 : okR r = false := by
              cases h : okR r with
              | false => rfl
              | true =>
                refine absurd (oe.mpr fun k hk => ?_) ho
                unfold okR at h
                rw [Bool.and_eq_true, List.all_eq_true] at h
                exact (ab1 k hk).trans (of_decide_eq_true (h.2 k hk))
            have := fin _ s36
            rw [bad hwi (show fitR ts r = false by unfold fitR; rw [f0, Bool.false_and])] at this
            exact iteT this
      | unlike a =>
        obtain ⟨pw1, u, rfl, hp1, _⟩ := wv3
        refine ⟨_, rfl, pw1, _, 0, _, rfl, rfl, sq_tup hp1, rfl, rfl, _, rfl, iteT ?_⟩
        have := fin _ sm3
        rw [bad hwi rfl] at this
        exact this
      | bench js =>
        obtain ⟨pw1, u, rfl, hp1, _⟩ := wv3
        refine ⟨_, rfl, pw1, _, 0, _, rfl, rfl, sq_tup hp1, rfl, rfl, _, rfl, iteT ?_⟩
        have := fin _ sm3
        rw [bad hwi rfl] at this
        exact this
      | table a ls =>
        obtain ⟨pw1, u, t, rfl, hp1, _⟩ := wv3
        refine ⟨_, rfl, pw1, _, 0, _, rfl, rfl, sq_tup hp1, rfl, rfl, _, rfl, iteT ?_⟩
        have := fin _ sm3
        rw [bad hwi rfl] at this
        exact this
    · obtain ⟨y2, y3, rfl, sm3, all3⟩ := h
      rw [lw, List.take_length] at all3
      rw [all3] at fin
      exact fin _ sm3
end
end M57

namespace M57
open PySem PySem.Spec PyProof.Rows L2 SX Own Gd
open C8 (Cal pe_c pe_gc pe_mk Mak pss_cut)
def pwr : List Int := [1, 2, 4, 8, 16, 32]
def sgF (m : Nat) (k : Nat) : Int := 1 - 2 * ((m : Int) / pwr.getD k 1 % 2)
def sgn (n m : Nat) : List Int := (List.range n).map (sgF m)
theorem sgn_pm (n m : Nat) : Pm (sgn n m) := fun t ht => by
  obtain ⟨k, _, rfl⟩ := List.mem_map.mp ht
  unfold sgF
  omega
def num : List Int := [1, 2, 4, 8, 16, 32, 64]
def someF (n : Nat) (wl : List Wish) : Bool := (List.range (num.getD n 0).toNat).any fun m => wl.all (fitW (sgn n m))
theorem len6 {a b c d e f : V} : [a, b, c, d, e, f].length ≤ sizeLine := by
  rw [sizeLine_eq]
  exact (by decide : 6 ≤ 16777216)
theorem any_false {α : Type} {p : α → Bool} {l : List α} (h : ∀ x ∈ l, p x = false) : l.any p = false := by
  rw [List.any_eq_false]
  exact fun x hx => by rw [h x hx]; decide
section
variable {P : Program} {w : World} {K : PySem.W.Frag} {mg : Str → Option Value} {base : Heap} {aW aT : Addr} {es : Array DictEntry} {nn : Nat}
abbrev s_Lsome_fit : Stmt := topS 54
abbrev n_Lsome_fit : List Str := ["wishes", "many", "number", "k"]
theorem sc_Lsome_fit : FnScope n_Lsome_fit ["wishes", "many"] (defScope s_Lsome_fit) := ⟨rfl, rfl, rfl, by decide +kernel, rfl, by decide +kernel, by decide +kernel⟩
def spSome : Sp := fun vs H Q _ => ∃ (wv : V) (wl : List Wish) (n : Nat), vs = [wv, .int n] ∧ WsV H wv wl ∧ 1 ≤ n ∧ n ≤ 6 ∧ (∀ r, Wish.sum r ∈ wl → r.am.length = n ∧ Sm 1000 r.am) ∧ ∀ H', Same H H' → Q (.bl (someF n wl)) H'
theorem ok_Lsome {f : Addr} {fd : FuncData} (F : Fun K "_law_some_fit" "_law_some_fit" s_Lsome_fit f fd) (T : Txt K mg w aW aT es nn) (c_Lfit : Cal P w K mg base 1 "_law_fit" spFit []) : FnOk P w K mg base CX0 2 f fd ["wishes", "many"] spSome := by
  refine F.ok sc_Lsome_fit (fun vs H Q E h => ?_) (fun cdv A outer s H vs Q E hr h => ?_)
  · obtain ⟨wv, wl, n, rfl, _⟩ := h
    rfl
  · obtain ⟨wv, wl, n, rfl, ⟨pw, ws, rfl, hpw, wvs⟩, n1, n6, rok, fin⟩ := h
    refine ⟨_, (pss_cons (ps_for PassesOwn.never rfl (pi_range1 (by rfl) T.b_range (pa_cons (pe_ix ix_list (pe_lst (pa_cons pe_int (pa_cons pe_int (pa_cons pe_int (pa_cons pe_int (pa_cons pe_int (pa_cons pe_int (pa_cons pe_int pa_nil)))))))) (pv 1) (fun _ _ => rfl)) pa_nil)) (pg_name (i := 2) sc_Lsome_fit.nd rfl (.inr rfl)) (pss_one (ps_if (pt_val (pe_c c_Lfit hr (by decide) (by rfl) (pa_cons (pv 0) (pa_cons (pe_lc (own := [("k", 3)]) rfl sc_Lsome_fit.nd (pi_range1 (by rfl) T.b_range (pa_cons (pv 1) pa_nil)) (blkOk_by (N := n_Lsome_fit) (sc := defScope s_Lsome_fit) (by decide +kernel)) (fun _ _ _ _ _ => (pg_name (i := 3) sc_Lsome_fit.nd rfl (.inl rfl))) (fun _ _ _ _ _ => pts_nil) (fun _ _ _ _ _ => (pe_op op_sub pe_int (pe_op op_mul pe_int (pe_op op_mod (pe_callTy call_int1 (by rfl) T.b_int (by decide +kernel) (pa_cons (pe_op op_fdiv (pv 2) (pe_ix (r := rIxL K) ix_list (pe_lst (pa_cons pe_int (pa_cons pe_int (pa_cons pe_int (pa_cons pe_int (pa_cons pe_int (pa_cons pe_int pa_nil))))))) (pv 3) (fun _ _ => rfl))) pa_nil)) pe_int))))) pa_nil)))) (pss_one (ps_ret pe_bl)) pss_nil)))
      (pss_one (ps_ret pe_bl))), ?_⟩
    have hN : num[n]? = some (num.getD n 0) := by
      rw [List.getD_eq_getElem?_getD, List.getElem?_eq_getElem (show n < num.length from (by show n < 7; omega))]; rfl
    have N1 : 1 ≤ num.getD n 0 ∧ num.getD n 0 ≤ 64 := by
      have : ∀ k : Nat, k < 7 → 1 ≤ num.getD k 0 ∧ num.getD k 0 ≤ 64 := by decide
      exact this n (by omega)
    refine ⟨len7, fun q nq => ⟨_, rfl, q, _, (n : Nat), .int (num.getD n 0), rfl, rfl, sq_lst upd_same, atI_nat (show (num.map V.int)[n]? = _ by rw [List.getElem?_map, hN]; rfl), _, rfl, by omega, by omega, ?_⟩⟩
    have sm0 := same_upd (o := .lst [.int 1, .int 2, .int 4, .int 8, .int 16, .int 32, .int 64]) nq
    generalize upd H q (.lst [.int 1, .int 2, .int 4, .int 8, .int 16, .int 32, .int 64]) = H1 at *
    refine for_range (lo := 0) (n := (num.getD n 0).toNat) (fun i σ H' => ∃ y2, σ = [some (.ref pw), some (.int (n : Nat)), y2, none] ∧ Same H H' ∧ ∀ m, m < i → wl.all (fitW (sgn n m)) = false) ⟨none, rfl, sm0, fun m h => absurd h (by omega)⟩ (fun i σ H2 hi hI => ?_) (fun σ H2 hI => ?_)
    · obtain ⟨y2, rfl, sm2, no⟩ := hI
      rw [show ((0 : Int) + (i : Nat)) = (i : Int) by omega]
      refine ⟨_, rfl, _, rfl, _, rfl, by omega, by omega, fun D nD => ?_⟩
      refine lc_range (lo := 0) (n := ((n : Nat) : Int).toNat) (fun j H' => H' D = some (.lst (((List.range j).map (sgF i)).map V.int)) ∧ Same H2 H') ⟨upd_same, same_upd nD⟩ (fun j H3 hj hI => ?_) (fun H3 hI => ?_)
      · obtain ⟨hD, s3⟩ := hI
        rw [Int.toNat_natCast] at hj
        rw [show ((0 : Int) + (j : Nat)) = (j : Int) by omega]
        have hp : pwr[j]? = some (pwr.getD j 1) := by
          rw [List.getD_eq_getElem?_getD, List.getElem?_eq_getElem (show j < pwr.length from (by show j < 6; omega))]; rfl
        have P1 : 0 < pwr.getD j 1 ∧ pwr.getD j 1 < 1073741824 := by
          have : ∀ k : Nat, k < 6 → 0 < pwr.getD k 1 ∧ pwr.getD k 1 < 1073741824 := by decide
          exact this j (by omega)
        refine ⟨rfl, _, rfl, len6, fun q2 nq2 => ⟨_, rfl, q2, _, (j : Nat), .int (pwr.getD j 1), rfl, rfl, sq_lst upd_same, atI_nat (show (pwr.map V.int)[j]? = _ by rw [List.getElem?_map, hp]; rfl), _, _, rfl, rfl, P1, .inl ⟨_, rfl, _, _, rfl, rfl, (by show (0 : Int) < 2; decide), _, _, rfl, rfl, .inl ⟨by decide, by decide⟩, _, _, rfl, rfl, _, same_upd nq2 _ _ hD, small1000 (by rw [List.length_map, List.length_map, List.length_range]; omega), ?_, same_at (s3.trans (same_upd nq2)) nD⟩⟩⟩
        rw [upd_same, List.range_succ, List.map_append, List.map_append]; rfl
      obtain ⟨hD, s3⟩ := hI
      rw [Int.toNat_natCast] at hD
      have s23 := sm2.trans s3
      have ls : (sgn n i).length = n := by unfold sgn; rw [List.length_map, List.length_range]
      refine ⟨.ref pw, .ref D, wl, sgn n i, rfl, ⟨pw, ws, rfl, s23 _ _ hpw, ?_⟩, ⟨D, rfl, .inl hD⟩, sgn_pm n i, by omega, fun r hr => by rw [ls]; exact rok r hr, fun H4 s4 => ⟨_, rfl, ?_⟩⟩
      · exact WVs.same s23 wvs
      cases h : wl.all (fitW (sgn n i)) with
      | true =>
        refine iteT ?_
        have := fin _ (s23.trans s4)
        rw [show someF n wl = true from List.any_eq_true.mpr ⟨i, List.mem_range.mpr hi, h⟩] at this
        exact this
      | false =>
        refine iteF ⟨_, rfl, s23.trans s4, fun m hm => ?_⟩
        by_cases e : m = i
        · rw [e]; exact h
        · exact no m (by omega)
    · obtain ⟨y2, rfl, sm2, no⟩ := hI
      have := fin _ sm2
      rw [show someF n wl = false from any_false fun m hm => no m (List.mem_range.mp hm)] at this
      exact this
end
end M57

namespace M57
open PySem PySem.Spec PyProof.Rows L2 SX Own Gd
/-! ### the turns found fit -/
theorem put_old {m : Mp} {k j : Nat} {t u : Int} (hk : m k = none) (h : m j = some u) : (m.put k t) j = some u := by
  unfold Mp.put
  rw [if_neg (fun e => by rw [e, hk] at h; cases h), h]
theorem put_at {m : Mp} {k : Nat} {t : Int} : (m.put k t) k = some t := by
  unfold Mp.put
  rw [if_pos rfl]
theorem put_or {m : Mp} {k j : Nat} {t u : Int} (h : (m.put k t) j = some u) : (j = k ∧ u = t) ∨ m j = some u := by
  unfold Mp.put at h
  split at h
  · rename_i e
    cases h
    exact .inl ⟨e, rfl⟩
  · exact .inr h
structure Ext (s s' : Mp × List Nat) : Prop where
  old : ∀ k u, s.1 k = some u → s'.1 k = some u
  new : ∀ k u, s'.1 k = some u → s.1 k = some u ∨ k ∈ s'.2
  wt : ∀ k ∈ s.2, k ∈ s'.2
theorem Ext.trans {a b c : Mp × List Nat} (x : Ext a b) (y : Ext b c) : Ext a c :=
  ⟨fun k u h => y.old k u (x.old k u h), fun k u h => by
    rcases y.new k u h with h | h
    · rcases x.new k u h with h | h
      · exact .inl h
      · exact .inr (y.wt k h)
    · exact .inr h, fun k h => y.wt k (x.wt k h)⟩
theorem Ext.put {m : Mp} {wl : List Nat} {k : Nat} {t : Int} (h : m k = none) : Ext (m, wl) (m.put k t, wl ++ [k]) :=
  ⟨fun j u e => put_old h e, fun j u e => by
    rcases put_or e with ⟨rfl, _⟩ | e
    · exact .inr (List.mem_append_right _ (List.mem_singleton.mpr rfl))
    · exact .inl e, fun j e => List.mem_append_left _ e⟩
theorem linkF_ext {t : Int} : ∀ {es : List Lk} {s s' : Mp × List Nat}, linkF t s es = some s' → Ext s s' ∧ ∀ x ∈ es, s'.1 x.1 = some (t * x.2)
  | [], s, s', e => by
    rw [linkF] at e
    cases e
    exact ⟨⟨fun _ _ h => h, fun _ _ h => .inl h, fun _ h => h⟩, fun x hx => by cases hx⟩
  | x :: es, s, s', e => by
    rw [linkF] at e
    split at e
    · rename_i hx
      obtain ⟨e1, e2⟩ := linkF_ext e
      refine ⟨(Ext.put (m := s.1) (wl := s.2) hx).trans e1, fun y hy => ?_⟩
      rcases List.mem_cons.mp hy with rfl | hy
      · exact e1.old _ _ put_at
      · exact e2 y hy
    · rename_i u hx
      split at e
      · rename_i hu
        obtain ⟨e1, e2⟩ := linkF_ext e
        refine ⟨e1, fun y hy => ?_⟩
        rcases List.mem_cons.mp hy with rfl | hy
        · exact e1.old _ _ (hu ▸ hx)
        · exact e2 y hy
      · cases e
theorem linkF_meas {n : Nat} {t : Int} : ∀ {es : List Lk} {s s' : Mp × List Nat}, (∀ x ∈ es, x.1 < n) → linkF t s es = some s' → s'.2.length + 2 * un n s'.1 ≤ s.2.length + 2 * un n s.1
  | [], s, s', _, e => by
    rw [linkF] at e
    cases e
    exact Nat.le_refl _
  | x :: es, s, s', ok, e => by
    have ok2 := fun y hy => ok y (List.mem_cons_of_mem x hy)
    rw [linkF] at e
    split at e
    · rename_i hx
      have h1 := linkF_meas ok2 e
      have h2 := un_put hx (t := t * x.2) (ok x (List.mem_cons_self ..))
      rw [List.length_append, List.length_singleton] at h1
      dsimp only at h1
      omega
    · split at e
      · exact linkF_meas ok2 e
      · cases e
def Cl (L : Nat → List Lk) (m : Mp) (wl : List Nat) : Prop := ∀ i t, m i = some t → i ∉ wl → ∀ x ∈ L i, m x.1 = some (t * x.2)
theorem last_split {wl : List Nat} {a : Nat} (h : wl.getLast? = some a) : wl = wl.dropLast ++ [a] := by
  rcases List.eq_nil_or_concat wl with rfl | ⟨ws, b, rfl⟩
  · cases h
  · rw [List.concat_eq_append] at *
    rw [List.getLast?_append, List.getLast?_singleton] at h
    cases h
    rw [List.dropLast_concat]
theorem waitF_cl {L : Nat → List Lk} {n : Nat} (ok : ∀ j, ∀ x ∈ L j, x.1 < n) : ∀ {F : Nat} {m m' : Mp} {wl : List Nat}, waitF L F m wl = some m' → wl.length + 2 * un n m < F → Has m wl → Cl L m wl → Cl L m' []
  | 0, _, _, _, _, h, _, _ => absurd h (by omega)
  | F + 1, m, m', wl, e, hF, has, cl => by
    rw [waitF] at e
    split at e
    · rename_i hn
      cases e
      obtain rfl : wl = [] := List.getLast?_eq_none_iff.mp hn
      exact cl
    · rename_i a ha
      obtain ⟨ta, hta⟩ := has a (last_mem ha)
      have sp := last_split ha
      split at e
      · cases e
      · rename_i s hs
        rw [hta] at hs
        obtain ⟨e1, e2⟩ := linkF_ext hs
        have me := linkF_meas (n := n) (fun x hx => ok a x hx) hs
        have ll : wl.length = wl.dropLast.length + 1 := by
          have := congrArg List.length sp
          rw [List.length_append, List.length_singleton] at this
          exact this
        dsimp only at me
        refine waitF_cl ok e (by omega) (linkF_wait hs fun k hk => has k (List.dropLast_subset _ hk)) (fun i t hi ni x hx => ?_)
        rcases e1.new i t hi with h | h
        · by_cases hw : i ∈ wl
          · rw [sp] at hw
            rcases List.mem_append.mp hw with hw | hw
            · exact absurd (e1.wt i hw) ni
            · obtain rfl := List.mem_singleton.mp hw
              have h : m i = some t := h
              rw [hta] at h
              cases h
              exact e2 x hx
          · exact e1.old _ _ (cl i t h hw x hx)
        · exact absurd h ni
theorem allF_cl {L : Nat → List Lk} {n : Nat} (ok : ∀ j, ∀ x ∈ L j, x.1 < n) : ∀ {s : Nat} {m : Mp}, s ≤ n → allF L (2 * n + 2) s = some m → Cl L m []
  | 0, m, _, e => by
    rw [allF] at e
    cases e
    exact fun i t h => nomatch h
  | s + 1, m, hs, e => by
    rw [allF] at e
    split at e
    · cases e
    · rename_i m0 h0
      have c0 := allF_cl ok (by omega) h0
      split at e
      · cases e
        exact c0
      · rename_i hn
        have hn : m0 s = none := by
          cases h : m0 s with
          | none => rfl
          | some u => rw [h] at hn; exact absurd rfl hn
        have u1 := un_put hn (t := 1) (n := n) (by omega)
        have u2 := un_le n m0
        refine waitF_cl ok e (by rw [List.length_singleton]; omega) (fun k hk => ?_) (fun i t hi ni x hx => ?_)
        · rw [List.mem_singleton.mp hk]; exact ⟨1, put_at⟩
        · rcases put_or hi with ⟨rfl, _⟩ | h
          · exact absurd (List.mem_singleton.mpr rfl) ni
          · exact put_old hn (c0 i t h (by simp) x hx)
/-! ### if any turns fit, some are found -/
structure CD (g : Nat → Int) (m0 : Mp) (c : Int) (m : Mp) (wl : List Nat) : Prop where
  vl : ∀ k t, m k = some t → m0 k = some t ∨ (m0 k = none ∧ t = g k * c)
  wt : ∀ k ∈ wl, m0 k = none ∧ ∃ t, m k = some t
theorem linkF_some {g : Nat → Int} {m0 : Mp} {c ta : Int} {a : Nat} (hta : ta = g a * c) : ∀ {es : List Lk} {s : Mp × List Nat}, (∀ x ∈ es, g x.1 = g a * x.2 ∧ m0 x.1 = none) → CD g m0 c s.1 s.2 → ∃ s', linkF ta s es = some s' ∧ CD g m0 c s'.1 s'.2
  | [], s, _, h => ⟨s, by rw [linkF], h⟩
  | x :: es, s, ok, h => by
    have ok2 := fun y hy => ok y (List.mem_cons_of_mem x hy)
    obtain ⟨o1, o2⟩ := ok x (List.mem_cons_self ..)
    have e1 : ta * x.2 = g x.1 * c := by rw [o1, hta]; simp only [Int.mul_assoc, Int.mul_comm c x.2]
    rw [linkF]
    cases hx : s.1 x.1 with
    | none =>
      refine linkF_some hta ok2 ⟨fun k t e => ?_, fun k hk => ?_⟩
      · rcases put_or e with ⟨rfl, rfl⟩ | e
        · exact .inr ⟨o2, e1⟩
        · exact h.vl k t e
      · rcases List.mem_append.mp hk with hk | hk
        · obtain ⟨h1, h2⟩ := h.wt k hk
          exact ⟨h1, put_has h2⟩
        · rw [List.mem_singleton.mp hk]
          exact ⟨o2, _, put_at⟩
    | some u =>
      dsimp only
      have hu : u = ta * x.2 := by
        rcases h.vl _ _ hx with z | ⟨_, z⟩
        · rw [o2] at z; cases z
        · rw [z, e1]
      rw [if_pos hu]
      exact linkF_some hta ok2 h
theorem waitF_some {L : Nat → List Lk} {g : Nat → Int} {m0 : Mp} {c : Int} (gl : ∀ i, ∀ x ∈ L i, g x.1 = g i * x.2) (sy : ∀ i, ∀ x ∈ L i, m0 i = none → m0 x.1 = none) : ∀ {F : Nat} {m : Mp} {wl : List Nat}, CD g m0 c m wl → ∃ m', waitF L F m wl = some m'
  | 0, m, wl, _ => ⟨m, by rw [waitF]⟩
  | F + 1, m, wl, h => by
    rw [waitF]
    cases ha : wl.getLast? with
    | none => exact ⟨m, rfl⟩
    | some a =>
      obtain ⟨n0, ta, hta⟩ := h.wt a (last_mem ha)
      have et : ta = g a * c := by
        rcases h.vl _ _ hta with z | ⟨_, z⟩
        · rw [n0] at z; cases z
        · exact z
      obtain ⟨s', e1, e2⟩ := linkF_some (es := L a) (s := (m, wl.dropLast)) et (fun x hx => ⟨gl a x hx, sy a x hx n0⟩) ⟨h.vl, fun k hk => h.wt k (List.dropLast_subset _ hk)⟩
      dsimp only
      rw [hta, show (some ta : Option Int).getD 0 = ta from rfl, e1]
      exact waitF_some gl sy e2
theorem allF_some {L : Nat → List Lk} {n : Nat} {g : Nat → Int} (ok : ∀ j, ∀ x ∈ L j, x.1 < n) (gl : ∀ i, ∀ x ∈ L i, g x.1 = g i * x.2) (sq : ∀ k, k < n → g k * g k = 1) (sy : ∀ i, ∀ x ∈ L i, (i, x.2) ∈ L x.1) : ∀ {s : Nat}, s ≤ n → ∃ m, allF L (2 * n + 2) s = some m
  | 0, _ => ⟨_, by rw [allF]⟩
  | s + 1, hs => by
    obtain ⟨m0, h0⟩ := allF_some ok gl sq sy (s := s) (by omega)
    rw [allF, h0]
    dsimp only
    split
    · exact ⟨_, rfl⟩
    · rename_i hn
      have hn : m0 s = none := by
        cases h : m0 s with
        | none => rfl
        | some u => rw [h] at hn; exact absurd rfl hn
      have c0 := allF_cl ok (by omega) h0
      refine waitF_some (g := g) (m0 := m0) (c := g s) gl (fun i x hx hi => ?_) ⟨fun k t e => ?_, fun k hk => ?_⟩
      · cases h : m0 x.1 with
        | none => rfl
        | some u =>
          have := c0 x.1 u h (by simp) _ (sy i x hx)
          dsimp only at this
          rw [hi] at this
          cases this
      · rcases put_or e with ⟨rfl, rfl⟩ | e
        · exact .inr ⟨hn, (sq k (by omega)).symm⟩
        · exact .inl e
      · rw [List.mem_singleton.mp hk]
        exact ⟨hn, 1, put_at⟩
end M57

namespace M57
open PySem PySem.Spec PyProof.Rows L2 SX Own Gd
theorem entF_mem {r : Row} {j : Nat} {x : Lk} : x ∈ entF (lkR r) j ↔ ∃ a b, nzl r = [a, b] ∧ ((j = a ∧ x = (b, -cf r a * cf r b)) ∨ (j = b ∧ x = (a, -cf r a * cf r b))) := by
  constructor
  · intro h
    by_cases l2 : (nzl r).length = 2
    · obtain ⟨a, b, e⟩ : ∃ a b, nzl r = [a, b] := by
        match h : nzl r, l2 with
        | [a, b], _ => exact ⟨a, b, rfl⟩
      refine ⟨a, b, e, ?_⟩
      rw [(lk_two e).1] at h
      unfold entF at h
      dsimp only at h
      split at h
      · rename_i ja
        exact .inl ⟨ja, List.mem_singleton.mp h⟩
      · split at h
        · rename_i jb
          exact .inr ⟨jb, List.mem_singleton.mp h⟩
        · cases h
    · rw [lk_not l2] at h
      cases h
  · rintro ⟨a, b, e, h⟩
    obtain ⟨e1, ab, _⟩ := lk_two e
    rw [e1]
    unfold entF
    dsimp only
    rcases h with ⟨rfl, rfl⟩ | ⟨rfl, rfl⟩
    · rw [if_pos rfl]; exact List.mem_singleton.mpr rfl
    · rw [if_neg (by omega), if_pos rfl]; exact List.mem_singleton.mpr rfl
theorem lnk_mem {wl : List Wish} {j : Nat} {x : Lk} : x ∈ lnk wl j ↔ ∃ r, Wish.sum r ∈ wl ∧ ∃ a b, nzl r = [a, b] ∧ ((j = a ∧ x = (b, -cf r a * cf r b)) ∨ (j = b ∧ x = (a, -cf r a * cf r b))) := by
  constructor
  · intro h
    obtain ⟨z, hz, hx⟩ := List.mem_flatMap.mp h
    cases z with
    | sum r => exact ⟨r, hz, entF_mem.mp hx⟩
    | unlike a => cases hx
    | bench js => cases hx
    | table a ls => cases hx
  · rintro ⟨r, hr, h⟩
    exact List.mem_flatMap.mpr ⟨.sum r, hr, entF_mem.mpr h⟩
theorem okR_one {r : Row} (h : okR r = true) {k : Nat} (hk : k ∈ nzl r) : cf r k = 1 ∨ cf r k = -1 := by
  unfold okR at h
  rw [Bool.and_eq_true, List.all_eq_true] at h
  exact pm_of (of_decide_eq_true (h.2 k hk))
theorem turnsF_fit {wl : List Wish} {n : Nat} {ts : List Int} (rok : ∀ r, Wish.sum r ∈ wl → r.am.length = n ∧ Sm 1000 r.am) (e : turnsF wl n = some ts) : wl.all (fitW ts) = true := by
  unfold turnsF at e
  split at e
  · rename_i al
    have ok := okL rok al
    unfold alongF at e
    obtain ⟨m, hm, rfl⟩ := Option.map_eq_some_iff.mp e
    have cl := allF_cl (n := n) (fun j x hx => (ok j x hx).1) (Nat.le_refl _) hm
    have gd : ∀ k u, k < n → m k = some u → ((List.range n).map fun k => (m k).getD 0).getD k 0 = u := fun k u hk hu => by
      rw [List.getD_eq_getElem?_getD, List.getElem?_map, List.getElem?_range hk]
      show (m k).getD 0 = u
      rw [hu]; rfl
    rw [List.all_eq_true]
    intro z hz
    have oz := List.all_eq_true.mp al z hz
    cases z with
    | sum r =>
      have oz : okR r = true := oz
      show fitR _ r = true
      unfold fitR
      rw [oz, Bool.true_and]
      split
      · rename_i a b hab
        obtain ⟨_, ab, bl⟩ := lk_two hab
        have bn : b < n := by rw [← (rok r hz).1]; exact bl
        have ca := okR_one oz (k := a) (by rw [hab]; simp)
        have cb := okR_one oz (k := b) (by rw [hab]; simp)
        obtain ⟨u, hu⟩ := allF_set hm a (by omega)
        have hb := cl a u hu (by simp) (b, -cf r a * cf r b) (lnk_mem.mpr ⟨r, hz, a, b, hab, .inl ⟨rfl, rfl⟩⟩)
        refine decide_eq_true ?_
        unfold sgv
        rw [gd a u (by omega) hu, gd b _ bn hb]
        rcases ca with h1 | h1 <;> rcases cb with h2 | h2 <;> rw [h1, h2] <;> omega
      · rfl
    | unlike a => cases oz
    | bench js => cases oz
    | table a ls => cases oz
  · cases e
theorem turnsF_some {wl : List Wish} {n : Nat} {gl : List Int} (rok : ∀ r, Wish.sum r ∈ wl → r.am.length = n ∧ Sm 1000 r.am) (lg : gl.length = n) (pm : Pm gl) (h : wl.all (fitW gl) = true) : ∃ ts, turnsF wl n = some ts := by
  have each : ∀ r, Wish.sum r ∈ wl → fitR gl r = true := fun r hr => List.all_eq_true.mp h _ hr
  have al : wl.all okW = true := by
    rw [List.all_eq_true]
    intro z hz
    have oz := List.all_eq_true.mp h z hz
    cases z with
    | sum r =>
      have oz : fitR gl r = true := oz
      unfold fitR at oz
      rw [Bool.and_eq_true] at oz
      exact oz.1
    | unlike a => cases oz
    | bench js => cases oz
    | table a ls => cases oz
  have ok := okL rok al
  have gv : ∀ k, k < n → gl.getD k 0 = 1 ∨ gl.getD k 0 = -1 := fun k hk => by
    rw [List.getD_eq_getElem?_getD, List.getElem?_eq_getElem (by omega)]
    exact pm _ (List.getElem_mem (by omega))
  unfold turnsF
  rw [if_pos al]
  unfold alongF
  have g1 : ∀ i, ∀ x ∈ lnk wl i, gl.getD x.1 0 = gl.getD i 0 * x.2 := fun i x hx => by
    obtain ⟨r, hr, a, b, hab, h⟩ := lnk_mem.mp hx
    have fr := each r hr
    have oz : okR r = true := List.all_eq_true.mp al _ hr
    have ca := okR_one oz (k := a) (by rw [hab]; simp)
    have cb := okR_one oz (k := b) (by rw [hab]; simp)
    unfold fitR at fr
    rw [oz, hab, Bool.true_and] at fr
    have fr := of_decide_eq_true fr
    unfold sgv at fr
    rcases h with ⟨rfl, rfl⟩ | ⟨rfl, rfl⟩
    · dsimp only
      rcases ca with h1 | h1 <;> rcases cb with h2 | h2 <;> rw [h1, h2] at fr ⊢ <;> omega
    · dsimp only
      rcases ca with h1 | h1 <;> rcases cb with h2 | h2 <;> rw [h1, h2] at fr ⊢ <;> omega
  have g2 : ∀ k, k < n → gl.getD k 0 * gl.getD k 0 = 1 := fun k hk => by
    rcases gv k hk with e | e <;> rw [e] <;> rfl
  have g3 : ∀ i, ∀ x ∈ lnk wl i, (i, x.2) ∈ lnk wl x.1 := fun i x hx => by
    obtain ⟨r, hr, a, b, hab, h⟩ := lnk_mem.mp hx
    refine lnk_mem.mpr ⟨r, hr, a, b, hab, ?_⟩
    rcases h with ⟨rfl, rfl⟩ | ⟨rfl, rfl⟩
    · exact .inr ⟨rfl, rfl⟩
    · exact .inl ⟨rfl, rfl⟩
  obtain ⟨m, hm⟩ := allF_some (L := lnk wl) (n := n) (g := fun k => gl.getD k 0) (fun j x hx => (ok j x hx).1) g1 g2 g3 (s := n) (Nat.le_refl _)
  exact ⟨_, by rw [hm]; rfl⟩
def pmL : Nat → List (List Int)
  | 0 => [[]]
  | n + 1 => (pmL n).map (1 :: ·) ++ (pmL n).map (-1 :: ·)
theorem pmL_mem : ∀ {ts : List Int}, Pm ts → ts ∈ pmL ts.length
  | [], _ => List.mem_singleton.mpr rfl
  | t :: ts, h => by
    have ih := pmL_mem (ts := ts) fun x hx => h x (List.mem_cons_of_mem _ hx)
    show t :: ts ∈ (pmL ts.length).map (1 :: ·) ++ (pmL ts.length).map (-1 :: ·)
    rcases h t (List.mem_cons_self ..) with rfl | rfl
    · exact List.mem_append_left _ (List.mem_map.mpr ⟨ts, ih, rfl⟩)
    · exact List.mem_append_right _ (List.mem_map.mpr ⟨ts, ih, rfl⟩)
theorem cover : ∀ n : Nat, n < 7 → ∀ ts ∈ pmL n, ((List.range (num.getD n 0).toNat).any fun m => decide (sgn n m = ts)) = true := by decide +kernel
theorem someF_of {wl : List Wish} {n : Nat} {gl : List Int} (hn : n ≤ 6) (lg : gl.length = n) (pm : Pm gl) (h : wl.all (fitW gl) = true) : someF n wl = true := by
  have c := cover n (by omega) gl (lg ▸ pmL_mem pm)
  obtain ⟨m, hm, e⟩ := List.any_eq_true.mp c
  exact List.any_eq_true.mpr ⟨m, hm, by rw [of_decide_eq_true e]; exact h⟩
theorem someF_turns {wl : List Wish} {n : Nat} (rok : ∀ r, Wish.sum r ∈ wl → r.am.length = n ∧ Sm 1000 r.am) (hn : n ≤ 6) : (someF n wl = false → turnsF wl n = none) ∧ (someF n wl = true → ∃ ts, turnsF wl n = some ts) := by
  constructor
  · intro h
    cases e : turnsF wl n with
    | none => rfl
    | some ts =>
      rw [someF_of hn (turnsF_len e) (turnsF_pm rok e) (turnsF_fit rok e)] at h
      cases h
  · intro h
    obtain ⟨m, _, e⟩ := List.any_eq_true.mp h
    exact turnsF_some rok (by unfold sgn; rw [List.length_map, List.length_range]) (sgn_pm n m) e
end M57

namespace M57
open PySem PySem.Spec PyProof.Rows L2 SX Own Gd
/-! ### points at thresholds, in twelfths -/
structure Low (t b : Int) (f : Fr) (g : Int) : Prop where
  g0 : 0 < g
  e1 : t = g * f.1
  e2 : b = g * f.2
  f0 : 0 < f.2
theorem low_of (t : Int) {b : Int} (h : 0 < b) : Low t b (lowF t b) (Int.gcd t b : Nat) := by
  have g0 : 0 < (Int.gcd t b : Nat) := Nat.pos_of_ne_zero fun z => by
    have := Int.gcd_eq_zero_iff.mp z
    omega
  have e2 : b = (Int.gcd t b : Nat) * (b / (Int.gcd t b : Nat)) := (Int.mul_ediv_cancel' (Int.gcd_dvd_right ..)).symm
  refine ⟨by omega, (Int.mul_ediv_cancel' (Int.gcd_dvd_left ..)).symm, e2, ?_⟩
  show 0 < b / (Int.gcd t b : Nat)
  rcases Int.lt_or_le 0 (b / (Int.gcd t b : Nat)) with h1 | h1
  · exact h1
  · have := Int.mul_nonpos_of_nonneg_of_nonpos (show (0 : Int) ≤ (Int.gcd t b : Nat) by omega) h1
    omega
theorem div_low {t x : Int} {f : Fr} {g : Int} (h : Low x 12 f g) : t * x / 12 = t * f.1 / f.2 := by
  have e : t * x = g * (t * f.1) := by rw [h.e1]; ac_rfl
  rw [e]
  conv => lhs; rw [h.e2]
  exact Int.mul_ediv_mul_of_pos _ _ h.g0
theorem ab_low {t x : Int} {f : Fr} {g : Int} (h : Low x 12 f g) : abF (t, x) = g * (t * f.1 - t * f.1 / f.2 * f.2) := by
  show t * x - 12 * (t * x / 12) = _
  rw [div_low h, Int.mul_sub]
  have e : t * x = g * (t * f.1) := by rw [h.e1]; ac_rfl
  have e3 : 12 * (t * f.1 / f.2) = g * (t * f.1 / f.2 * f.2) := by
    conv => lhs; rw [h.e2]
    ac_rfl
  rw [e, e3]
theorem rd_pt {t x m : Int} {f th : Fr} {g k : Int} (h : Low x 12 f g) (hm : Low m 12 th k) : rdF th (f, t) = ptF m (t, x) := by
  have ea := ab_low (t := t) h
  unfold rdF ptF
  dsimp only
  rw [div_low h]
  generalize he : t * f.1 - t * f.1 / f.2 * f.2 = e at *
  have gk : 0 < g * k := Int.mul_pos h.g0 hm.g0
  have l1 : g * k * (e * th.2) = abF (t, x) * 12 := by
    rw [ea]
    conv => rhs; rw [hm.e2]
    ac_rfl
  have l2 : g * k * (th.1 * f.2) = m * 12 := by
    conv => rhs; rw [hm.e1, h.e2]
    ac_rfl
  by_cases c : m ≤ abF (t, x)
  · rw [if_pos c, if_neg]
    intro z
    have := Int.mul_lt_mul_of_pos_left z gk
    omega
  · rw [if_neg c, if_pos, Int.add_zero]
    refine Int.lt_of_mul_lt_mul_left (a := g * k) ?_ (Int.le_of_lt gk)
    omega
theorem rnd_pt {m : Int} : ∀ {xs ts : List Int}, rnd (xs.map fun x => lowF x 12) ts (lowF m 12) = pt ts xs m
  | [], ts => by cases ts <;> rfl
  | x :: xs, [] => rfl
  | x :: xs, t :: ts => by
    have ih := rnd_pt (m := m) (xs := xs) (ts := ts)
    unfold rnd pt at ih ⊢
    rw [List.map_cons, List.zip_cons_cons, List.zip_cons_cons, List.map_cons, List.map_cons, ih, rd_pt (low_of x (by decide)) (low_of m (by decide))]
theorem low_scale {n b c : Int} (hc : 0 < c) : lowF (n * c) (b * c) = lowF n b := by
  unfold lowF
  have e : ((Int.gcd (n * c) (b * c) : Nat) : Int) = (Int.gcd n b : Nat) * c := by
    rw [Int.gcd_mul_right, Int.natCast_mul, Int.natAbs_of_nonneg (Int.le_of_lt hc)]
  rw [e, Int.mul_ediv_mul_of_pos_left _ _ hc, Int.mul_ediv_mul_of_pos_left _ _ hc]
theorem comN_mem : ∀ {st : List Fr} {c : Nat} {f : Fr}, f ∈ st → f.2.natAbs ∣ st.foldl (fun c f => Nat.lcm c f.2.natAbs) c
  | g :: st, c, f, h => by
    have mono : ∀ (st : List Fr) (c d : Nat), d ∣ c → d ∣ st.foldl (fun c f => Nat.lcm c f.2.natAbs) c := by
      intro st
      induction st with
      | nil => exact fun c d h => h
      | cons g st ih => exact fun c d h => ih _ d (Nat.dvd_trans h (Nat.dvd_lcm_left ..))
    rcases List.mem_cons.mp h with rfl | h
    · exact mono st _ _ (Nat.dvd_lcm_right ..)
    · exact comN_mem (st := st) h
theorem sorted_ext : ∀ {a b : List Int}, a.Pairwise (· < ·) → b.Pairwise (· < ·) → (∀ x, x ∈ a ↔ x ∈ b) → a = b
  | [], [], _, _, _ => rfl
  | [], y :: b, _, _, h => absurd ((h y).mpr (List.mem_cons_self ..)) (by simp)
  | x :: a, [], _, _, h => absurd ((h x).mp (List.mem_cons_self ..)) (by simp)
  | x :: a, y :: b, ha, hb, h => by
    rw [List.pairwise_cons] at ha hb
    have e : x = y := by
      rcases List.mem_cons.mp ((h x).mp (List.mem_cons_self ..)) with e | e
      · exact e
      · rcases List.mem_cons.mp ((h y).mpr (List.mem_cons_self ..)) with e2 | e2
        · exact e2.symm
        · have := hb.1 x e
          have := ha.1 y e2
          omega
    subst e
    rw [sorted_ext ha.2 hb.2 fun z => ?_]
    constructor
    · intro hz
      have := ha.1 z hz
      rcases List.mem_cons.mp ((h z).mp (List.mem_cons_of_mem _ hz)) with e | e
      · omega
      · exact e
    · intro hz
      have := hb.1 z hz
      rcases List.mem_cons.mp ((h z).mpr (List.mem_cons_of_mem _ hz)) with e | e
      · omega
      · exact e
theorem mkI_inc (ts xs : List Int) (n : Nat) : (mkI ts xs n).Pairwise (· < ·) := by
  unfold mkI
  refine List.Pairwise.filter _ (List.Pairwise.map _ (fun a b h => ?_) List.pairwise_lt_range)
  omega
theorem mkI_mem {ts xs : List Int} {z : Int} : z ∈ mkI ts xs 12 ↔ (1 ≤ z ∧ z ≤ 12) ∧ (z ∈ ab ts xs ∨ z = 12) := by
  unfold mkI
  rw [List.mem_filter]
  constructor
  · rintro ⟨h1, h2⟩
    obtain ⟨j, hj, rfl⟩ := List.mem_map.mp h1
    have := List.mem_range.mp hj
    refine ⟨by omega, ?_⟩
    rcases Bool.or_eq_true_iff.mp h2 with h | h
    · exact .inl (of_decide_eq_true h)
    · exact .inr (of_decide_eq_true h)
  · rintro ⟨h1, h2⟩
    refine ⟨List.mem_map.mpr ⟨(z - 1).toNat, List.mem_range.mpr (by omega), by omega⟩, ?_⟩
    rw [Bool.or_eq_true_iff]
    rcases h2 with h | h
    · exact .inl (decide_eq_true h)
    · exact .inr (decide_eq_true h)
theorem ab_bd (p : Int × Int) : 0 ≤ abF p ∧ abF p ≤ 11 := by
  unfold abF
  omega
theorem f12_low {x : Int} (h : x.natAbs ≤ 1000) : F12 (lowF x 12) := lowF_12 (by decide) ⟨1, rfl⟩ h
def stF (xs : List Int) : List Fr := xs.map fun x => lowF x 12
theorem zip_mem {xs ts : List Int} {f : Fr} {t : Int} (h : (f, t) ∈ (stF xs).zip ts) : ∃ x, (t, x) ∈ ts.zip xs ∧ f = lowF x 12 := by
  obtain ⟨i, hi⟩ := List.mem_iff_getElem?.mp h
  obtain ⟨h1, h2⟩ := List.getElem?_zip_eq_some.mp hi
  unfold stF at h1
  rw [List.getElem?_map] at h1
  obtain ⟨x, hx, rfl⟩ := Option.map_eq_some_iff.mp h1
  exact ⟨x, List.mem_of_getElem? (zip_at h2 hx), rfl⟩
theorem mem_zip {xs ts : List Int} {x t : Int} (h : (t, x) ∈ ts.zip xs) : (lowF x 12, t) ∈ (stF xs).zip ts := by
  obtain ⟨i, hi⟩ := List.mem_iff_getElem?.mp h
  obtain ⟨h1, h2⟩ := List.getElem?_zip_eq_some.mp hi
  refine List.mem_of_getElem? (zip_at (i := i) ?_ h1)
  unfold stF
  rw [List.getElem?_map, h2]; rfl
theorem sz_scale {xs ts : List Int} (bd : ∀ x ∈ xs, x.natAbs ≤ 1000) {c : Int} (hc : (comN (stF xs) : Int) * c = 12) {x t : Int} (h : (t, x) ∈ ts.zip xs) : t * (lowF x 12).1 % (lowF x 12).2 * (((comN (stF xs) : Nat) : Int) / (lowF x 12).2) * c = abF (t, x) := by
  have lw := low_of x (b := 12) (by decide)
  have mx : lowF x 12 ∈ stF xs := List.mem_map.mpr ⟨x, (List.of_mem_zip h).2, rfl⟩
  have dv : (lowF x 12).2 ∣ ((comN (stF xs) : Nat) : Int) := by
    rw [← Int.natAbs_of_nonneg (Int.le_of_lt lw.f0)]
    exact Int.natCast_dvd_natCast.mpr (comN_mem mx)
  have eq := Int.mul_ediv_cancel' dv
  generalize ((comN (stF xs) : Nat) : Int) / (lowF x 12).2 = q at *
  have eg : q * c = (Int.gcd x 12 : Nat) := by
    have h1 : (lowF x 12).2 * (q * c) = (lowF x 12).2 * (Int.gcd x 12 : Nat) := by
      rw [← Int.mul_assoc, eq, hc]
      conv => lhs; rw [lw.e2]
      exact Int.mul_comm ..
    exact Int.eq_of_mul_eq_mul_left (Int.ne_of_gt lw.f0) h1
  rw [Int.mul_assoc, eg, ab_low lw]
  have em : t * (lowF x 12).1 % (lowF x 12).2 = t * (lowF x 12).1 - t * (lowF x 12).1 / (lowF x 12).2 * (lowF x 12).2 := by
    have h1 := Int.emod_add_mul_ediv (t * (lowF x 12).1) (lowF x 12).2
    have h2 := Int.mul_comm (lowF x 12).2 (t * (lowF x 12).1 / (lowF x 12).2)
    omega
  rw [em, Int.mul_comm]
theorem marks_eq {xs ts ns : List Int} (bd : ∀ x ∈ xs, x.natAbs ≤ 1000) (pw : ns.Pairwise (· < ·)) (mem : ∀ k, k ∈ ns ↔ k ∈ szs (stF xs) ts) : ∃ c : Int, 0 < c ∧ (comN (stF xs) : Int) * c = 12 ∧ ns.map (· * c) = mkI ts xs 12 := by
  have f12 : ∀ f ∈ stF xs, F12 f := fun f hf => by
    obtain ⟨x, hx, rfl⟩ := List.mem_map.mp hf
    exact f12_low (bd x hx)
  have cd : comN (stF xs) ∣ 12 := comN_dvd (by decide) f12
  have cp : 0 < comN (stF xs) := comN_pos (by decide) f12
  obtain ⟨d, hd⟩ := cd
  have hc : (comN (stF xs) : Int) * (d : Nat) = 12 := by
    rw [← Int.natCast_mul, ← hd]; rfl
  have d0 : 0 < d := Nat.pos_of_ne_zero fun z => by rw [z] at hd; omega
  refine ⟨(d : Nat), by omega, hc, sorted_ext ?_ (mkI_inc ..) fun z => ?_⟩
  · exact List.Pairwise.map _ (fun a b h => Int.mul_lt_mul_of_pos_right h (by omega)) pw
  · rw [mkI_mem]
    constructor
    · intro h
      obtain ⟨k, hk, rfl⟩ := List.mem_map.mp h
      rcases List.mem_cons.mp ((mem k).mp hk) with rfl | h
      · rw [hc]; exact ⟨by decide, .inr rfl⟩
      · obtain ⟨⟨f, t⟩, hx, e⟩ := List.mem_filterMap.mp h
        obtain ⟨x, hx2, rfl⟩ := zip_mem hx
        unfold szF at e
        dsimp only at e
        split at e
        · rename_i ne
          cases e
          have sc := sz_scale bd hc hx2
          rw [sc]
          have b := ab_bd (t, x)
          have lw := low_of x (b := 12) (by decide)
          have e0 := Int.emod_nonneg (t * (lowF x 12).1) (show (lowF x 12).2 ≠ 0 from Int.ne_of_gt lw.f0)
          have nz : abF (t, x) ≠ 0 := by
            have ea := ab_low (t := t) lw
            have em : t * (lowF x 12).1 % (lowF x 12).2 = t * (lowF x 12).1 - t * (lowF x 12).1 / (lowF x 12).2 * (lowF x 12).2 := by
              have h1 := Int.emod_add_mul_ediv (t * (lowF x 12).1) (lowF x 12).2
              have h2 := Int.mul_comm (lowF x 12).2 (t * (lowF x 12).1 / (lowF x 12).2)
              omega
            rw [ea, ← em]
            exact Int.mul_ne_zero (Int.ne_of_gt lw.g0) ne
          exact ⟨by omega, .inl (List.mem_map.mpr ⟨_, hx2, rfl⟩)⟩
        · cases e
    · rintro ⟨⟨h1, h2⟩, h⟩
      rcases h with h | rfl
      · obtain ⟨⟨t, x⟩, hx, rfl⟩ := List.mem_map.mp h
        have sc := sz_scale bd hc hx
        refine List.mem_map.mpr ⟨_, (mem _).mpr (List.mem_cons_of_mem _ (List.mem_filterMap.mpr ⟨_, mem_zip hx, ?_⟩)), sc⟩
        unfold szF
        dsimp only
        rw [if_pos]
        intro z
        rw [z, Int.zero_mul, Int.zero_mul] at sc
        omega
      · exact List.mem_map.mpr ⟨_, (mem _).mpr (List.mem_cons_self ..), hc⟩
theorem thP_eq {xs ts ns : List Int} (bd : ∀ x ∈ xs, x.natAbs ≤ 1000) (pw : ns.Pairwise (· < ·)) (mem : ∀ k, k ∈ ns ↔ k ∈ szs (stF xs) ts) : ns.map (thP (stF xs) ts) = (mkI ts xs 12).map fun m => (lowF m 12, pt ts xs m) := by
  obtain ⟨c, c0, hc, e⟩ := marks_eq bd pw mem
  rw [← e, List.map_map]
  refine List.map_congr_left fun n _ => ?_
  have sc : lowF n (comN (stF xs) : Nat) = lowF (n * c) 12 := by
    have := low_scale (n := n) (b := (comN (stF xs) : Nat)) c0
    rw [hc] at this
    exact this.symm
  show (lowF n (comN (stF xs) : Nat), rnd (stF xs) ts (lowF n (comN (stF xs) : Nat))) = (lowF (n * c) 12, pt ts xs (n * c))
  rw [sc]
  show (_, rnd (xs.map fun x => lowF x 12) ts (lowF (n * c) 12)) = _
  rw [rnd_pt]
end M57

namespace M57
open PySem PySem.Spec PyProof.Rows L2 SX Own Gd
/-! ### rounding keeps rows and ends -/
theorem pt_len (ts xs : List Int) (m : Int) (h : xs.length = ts.length) : (pt ts xs m).length = ts.length := by
  unfold pt
  rw [List.length_map, List.length_zip, h, Nat.min_self]
theorem pt_at {ts xs : List Int} {m : Int} {k : Nat} {t x : Int} (ht : ts[k]? = some t) (hx : xs[k]? = some x) : (pt ts xs m)[k]? = some (ptF m (t, x)) := by
  unfold pt
  rw [List.getElem?_map, zip_at ht hx]; rfl
theorem dot_nz {am z : List Int} (h : z.length = am.length) : ∀ i, i ≤ am.length → dot (am.take i) (z.take i) = ((nzi am i).map fun k => am.getD k 0 * z.getD k 0).sum
  | 0, _ => rfl
  | i + 1, hi => by
    have hc : am[i]? = some (am.getD i 0) := by rw [List.getD_eq_getElem?_getD, List.getElem?_eq_getElem (by omega)]; rfl
    have hz : z[i]? = some (z.getD i 0) := by rw [List.getD_eq_getElem?_getD, List.getElem?_eq_getElem (by omega)]; rfl
    rw [dot_take hc hz, dot_nz h i (by omega), nzi_succ]
    by_cases e : am.getD i 0 = 0
    · rw [if_neg (fun y => y e), e, Int.zero_mul, Int.add_zero]
    · rw [if_pos e, List.map_append, List.sum_append]; simp
theorem dot_nzl {r : Row} {z : List Int} (h : z.length = r.am.length) : dot r.am z = ((nzl r).map fun k => cf r k * z.getD k 0).sum := by
  have := dot_nz h r.am.length (Nat.le_refl _)
  rw [List.take_length, List.take_of_length_le (by omega)] at this
  exact this
theorem one_le {s y m b : Int} (hs : s = 1 ∨ s = -1) (m1 : 1 ≤ m) (m2 : m ≤ 12) (h : 12 * b ≤ s * y) : b ≤ s * (y / 12 + if m ≤ y - 12 * (y / 12) then 1 else 0) := by
  rcases hs with rfl | rfl <;> split <;> omega
theorem two_le {s y z m b : Int} (hs : s = 1 ∨ s = -1) (m1 : 1 ≤ m) (m2 : m ≤ 12) (h : 12 * b ≤ s * y - s * z) : b ≤ s * (y / 12 + if m ≤ y - 12 * (y / 12) then 1 else 0) - s * (z / 12 + if m ≤ z - 12 * (z / 12) then 1 else 0) := by
  rcases hs with rfl | rfl <;> split <;> split <;> omega
theorem tt_mul {t c x : Int} (ht : t = 1 ∨ t = -1) : c * t * (t * x) = c * x := by
  have e : t * t = 1 := by rcases ht with rfl | rfl <;> rfl
  rw [show c * t * (t * x) = c * (t * t) * x by ac_rfl, e, Int.mul_one]
theorem keeps_row {r : Row} {ts xs : List Int} (pm : Pm ts) (lx : xs.length = ts.length) (lr : r.am.length = ts.length) (fit : fitR ts r = true) {m : Int} (m1 : 1 ≤ m) (m2 : m ≤ 12) (b : Int) (h : 12 * b ≤ dot r.am xs) : b ≤ dot r.am (pt ts xs m) := by
  rw [dot_nzl (by omega)] at h
  rw [dot_nzl (by rw [pt_len _ _ _ lx]; omega)]
  unfold fitR at fit
  rw [Bool.and_eq_true] at fit
  obtain ⟨ok, two⟩ := fit
  have l2 : (nzl r).length ≤ 2 := by
    unfold okR at ok
    rw [Bool.and_eq_true] at ok
    exact of_decide_eq_true ok.1
  have ev : ∀ k ∈ nzl r, ∃ t x, xs.getD k 0 = x ∧ ts.getD k 0 = t ∧ (pt ts xs m).getD k 0 = ptF m (t, x) ∧ (t = 1 ∨ t = -1) := fun k hk => by
    have kl := nzl_lt hk
    have ht : ts[k]? = some (ts[k]'(by omega)) := List.getElem?_eq_getElem (by omega)
    have hx : xs[k]? = some (xs[k]'(by omega)) := List.getElem?_eq_getElem (by omega)
    refine ⟨ts[k]'(by omega), xs[k]'(by omega), ?_, ?_, ?_, pm _ (List.getElem_mem (by omega))⟩
    · rw [List.getD_eq_getElem?_getD, hx]; rfl
    · rw [List.getD_eq_getElem?_getD, ht]; rfl
    · rw [List.getD_eq_getElem?_getD, pt_at ht hx]; rfl
  match hn : nzl r, l2 with
  | [], _ =>
    rw [hn] at h
    simp only [List.map_nil, List.sum_nil] at h ⊢
    omega
  | [a], _ =>
    obtain ⟨t, x, e1, e2, e3, e4⟩ := ev a (by rw [hn]; simp)
    have ca := okR_one ok (k := a) (by rw [hn]; simp)
    rw [hn] at h
    simp only [List.map_cons, List.map_nil, List.sum_cons, List.sum_nil, Int.add_zero, e1, e3] at h ⊢
    have := one_le (s := cf r a * t) (y := t * x) (m := m) (b := b) (pm_mul ca e4) m1 m2 (by rw [tt_mul e4]; exact h)
    unfold ptF abF
    dsimp only
    rw [← Int.mul_assoc]
    exact this
  | [a, c], _ =>
    obtain ⟨t, x, e1, e2, e3, e4⟩ := ev a (by rw [hn]; simp)
    obtain ⟨u, z, f1, f2, f3, f4⟩ := ev c (by rw [hn]; simp)
    have ca := okR_one ok (k := a) (by rw [hn]; simp)
    have cc := okR_one ok (k := c) (by rw [hn]; simp)
    rw [hn] at h two
    have two := of_decide_eq_true two
    unfold sgv at two
    rw [e2, f2] at two
    simp only [List.map_cons, List.map_nil, List.sum_cons, List.sum_nil, Int.add_zero, e1, e3, f1, f3] at h ⊢
    have cu : cf r c * u = -(cf r a * t) := by omega
    have hz : cf r c * z = -(cf r a * t) * (u * z) := by
      rw [← cu]
      exact (tt_mul f4).symm
    have hx : cf r a * x = cf r a * t * (t * x) := (tt_mul e4).symm
    have := two_le (s := cf r a * t) (y := t * x) (z := u * z) (m := m) (b := b) (pm_mul ca e4) m1 m2 (by
      rw [hx, hz, Int.neg_mul] at h
      omega)
    unfold ptF abF
    dsimp only
    rw [← Int.mul_assoc, ← Int.mul_assoc, cu, Int.neg_mul]
    omega
def negR (r : Row) : Row := ⟨r.am.map (- ·), r.eq, r.bd⟩
theorem ends_ok {t x m lo hi : Int} (ht : t = 1 ∨ t = -1) (m1 : 1 ≤ m) (m2 : m ≤ 12) (h1 : lo ≤ x / 12) (h2 : -(-x / 12) ≤ hi) : lo ≤ ptF m (t, x) ∧ ptF m (t, x) ≤ hi := by
  unfold ptF abF
  dsimp only
  rcases ht with rfl | rfl <;> split <;> omega
/-! ### the mixture -/
def mixF (ts xs : List Int) (l : Int) : List Int := (ts.zip xs).map fun p => p.1 * (l * (p.1 * p.2 / 12) + min l (abF p))
def lastF (ms : List Int) (i : Nat) : Int := (0 :: ms).getD i 0
theorem lastF_succ {ms : List Int} {i : Nat} {m : Int} (h : ms[i]? = some m) : lastF ms (i + 1) = m := by
  unfold lastF
  rw [List.getD_eq_getElem?_getD, List.getElem?_cons_succ, h]; rfl
theorem lastF_le {ms : List Int} (pw : ms.Pairwise (· < ·)) (pos : ∀ m ∈ ms, 0 < m) {i j : Nat} {m a : Int} (hi : ms[i]? = some m) (ha : ms[j]? = some a) : a ≤ lastF ms i ∨ m ≤ a := by
  rcases Nat.lt_or_ge j i with h | h
  · left
    obtain ⟨i, rfl⟩ : ∃ i0, i = i0 + 1 := ⟨i - 1, by omega⟩
    have li : i < ms.length := by have := (List.getElem?_eq_some_iff.mp hi).1; omega
    rw [lastF_succ (List.getElem?_eq_getElem li)]
    obtain ⟨lj, e⟩ := List.getElem?_eq_some_iff.mp ha
    rcases Nat.lt_or_ge j i with h2 | h2
    · have := List.pairwise_iff_getElem.mp pw j i lj li h2
      omega
    · obtain rfl : j = i := by omega
      omega
  · right
    obtain ⟨li, e1⟩ := List.getElem?_eq_some_iff.mp hi
    obtain ⟨lj, e2⟩ := List.getElem?_eq_some_iff.mp ha
    rcases Nat.lt_or_ge i j with h2 | h2
    · have := List.pairwise_iff_getElem.mp pw i j li lj h2
      omega
    · obtain rfl : j = i := by omega
      omega
theorem lastF_lt {ms : List Int} (pw : ms.Pairwise (· < ·)) (pos : ∀ m ∈ ms, 0 < m) {i : Nat} {m : Int} (hi : ms[i]? = some m) : lastF ms i < m ∧ 0 ≤ lastF ms i := by
  cases i with
  | zero => exact ⟨pos m (List.mem_of_getElem? hi), Int.le_refl _⟩
  | succ i =>
    obtain ⟨li, e⟩ := List.getElem?_eq_some_iff.mp hi
    rw [lastF_succ (List.getElem?_eq_getElem (show i < ms.length by omega))]
    have := List.pairwise_iff_getElem.mp pw i (i + 1) (by omega) li (by omega)
    have := pos _ (List.getElem_mem (show i < ms.length by omega))
    omega
theorem mix_step {ts xs : List Int} {i : Nat} {m : Int} (hm : (mkI ts xs 12)[i]? = some m) {p : Int × Int} (hp : p ∈ ts.zip xs) :
    p.1 * (lastF (mkI ts xs 12) i * (p.1 * p.2 / 12) + min (lastF (mkI ts xs 12) i) (abF p)) + (m - lastF (mkI ts xs 12) i) * ptF m p = p.1 * (m * (p.1 * p.2 / 12) + min m (abF p)) := by
  have pos : ∀ m ∈ mkI ts xs 12, 0 < m := fun m h => by have := (mkI_mem.mp h).1; omega
  have lt := lastF_lt (mkI_inc ts xs 12) pos hm
  have ab := ab_bd p
  have cs : abF p ≤ lastF (mkI ts xs 12) i ∨ m ≤ abF p := by
    by_cases z : abF p = 0
    · left; omega
    · have : abF p ∈ mkI ts xs 12 := mkI_mem.mpr ⟨by omega, .inl (List.mem_map.mpr ⟨p, hp, rfl⟩)⟩
      obtain ⟨j, hj⟩ := List.mem_iff_getElem?.mp this
      exact lastF_le (mkI_inc ts xs 12) pos hm hj
  unfold ptF
  generalize lastF (mkI ts xs 12) i = l at *
  generalize p.1 * p.2 / 12 = y at *
  generalize abF p = a at *
  rcases cs with c | c
  · rw [if_neg (by omega), Int.min_eq_right c, Int.min_eq_right (by omega), Int.add_zero, Int.sub_mul]
    have h1 : m * (p.1 * y) = p.1 * (m * y) := by ac_rfl
    have h2 : l * (p.1 * y) = p.1 * (l * y) := by ac_rfl
    rw [h1, h2, Int.mul_add, Int.mul_add]
    omega
  · rw [if_pos c, Int.min_eq_left (by omega), Int.min_eq_left c, Int.sub_mul]
    have go : ∀ z : Int, z * (p.1 * (y + 1)) = p.1 * (z * y) + p.1 * z := fun z => by
      rw [show z * (p.1 * (y + 1)) = z * (p.1 * y) + z * p.1 by rw [Int.mul_add p.1, Int.mul_one, Int.mul_add], show z * (p.1 * y) = p.1 * (z * y) by ac_rfl, Int.mul_comm z p.1]
    have h1 := go m
    have h2 := go l
    rw [h1, h2, Int.mul_add, Int.mul_add]
    omega
theorem mix_end {t x : Int} (ht : t = 1 ∨ t = -1) : t * (12 * (t * x / 12) + min 12 (abF (t, x))) = x := by
  have := ab_bd (t, x)
  rw [Int.min_eq_right (by omega)]
  unfold abF
  dsimp only
  rcases ht with rfl | rfl <;> omega
end M57

namespace M57
open PySem PySem.Spec PyProof.Rows L2 SX Own Gd
open C8 (Cal pe_c pe_gc pe_mk Mak pss_cut)
theorem nzl_ne {r : Row} {k : Nat} (h : k ∈ nzl r) : cf r k ≠ 0 := of_decide_eq_true (List.mem_filter.mp h).2
/-- a difference behind the turns -/
theorem fit_of {r : Row} {ts : List Int} {x y : Nat} {s : Int} (hs : s = 1 ∨ s = -1) (pm : ∀ k, k = x ∨ k = y → ts.getD k 0 = 1 ∨ ts.getD k 0 = -1) (hx : cf r x = s * ts.getD x 0) (hy : y ≠ x → cf r y = -s * ts.getD y 0) (h0 : ∀ k, k ≠ x → k ≠ y → cf r k = 0) : fitR ts r = true := by
  have mem : ∀ k ∈ nzl r, k = x ∨ (k = y ∧ y ≠ x) := fun k hk => by
    by_cases e : k = x
    · exact .inl e
    · by_cases f : k = y
      · exact .inr ⟨f, fun z => e (f.trans z)⟩
      · exact absurd (h0 k e f) (nzl_ne hk)
  have inc := nzl_inc r
  have one : ∀ k ∈ nzl r, (cf r k).natAbs = 1 := fun k hk => by
    rcases mem k hk with rfl | ⟨rfl, ne⟩
    · rw [hx]
      rcases hs with rfl | rfl <;> rcases pm k (.inl rfl) with e | e <;> rw [e] <;> rfl
    · rw [hy ne]
      rcases hs with rfl | rfl <;> rcases pm k (.inr rfl) with e | e <;> rw [e] <;> rfl
  have l2 : (nzl r).length ≤ 2 := by
    match h : nzl r with
    | [] => exact Nat.zero_le _
    | [a] => exact Nat.le_succ _
    | [a, b] => exact Nat.le_refl _
    | a :: b :: c :: l =>
      exfalso
      rw [h] at inc mem
      simp only [List.pairwise_cons, List.mem_cons] at inc
      have h1 := inc.1 b (.inl rfl)
      have h2 := inc.2.1 c (.inl rfl)
      rcases mem a (by simp) with e | ⟨e, _⟩ <;> rcases mem b (by simp) with f | ⟨f, _⟩ <;> rcases mem c (by simp) with g | ⟨g, _⟩ <;> omega
  unfold fitR
  rw [show okR r = true by unfold okR; rw [decide_eq_true l2, Bool.true_and, List.all_eq_true]; exact fun k hk => decide_eq_true (one k hk), Bool.true_and]
  split
  · rename_i a b hab
    obtain ⟨_, ab, _⟩ := lk_two hab
    refine decide_eq_true ?_
    unfold sgv
    rw [hab] at mem
    have sq : ∀ k, k = x ∨ k = y → ∀ c : Int, c * ts.getD k 0 * ts.getD k 0 = c := fun k hk c => by
      rcases pm k hk with e | e <;> rw [e] <;> omega
    rcases mem a (by simp) with rfl | ⟨rfl, n1⟩ <;> rcases mem b (by simp) with rfl | ⟨rfl, n2⟩
    · omega
    · rw [hx, hy n2, sq _ (.inl rfl), sq _ (.inr rfl)]; omega
    · rw [hx, hy n1, sq _ (.inl rfl), sq _ (.inr rfl)]; omega
    · omega
  · rfl
structure GoodR (ts xs : List Int) (r : Row) : Prop where
  len : r.am.length = ts.length
  fit : fitR ts r = true
  nz : ∃ c ∈ r.am, c ≠ 0
  sm : Sm 3 r.am
  ge : 12 * r.bd ≤ dot r.am xs
  eq : r.eq = true → dot r.am xs = 12 * r.bd
theorem sm_set {n : Nat} {a : List Int} (h : Sm n a) {i : Nat} {c : Int} (hc : c.natAbs ≤ n) : Sm n (a.set i c) := fun x hx => by
  rcases List.mem_or_eq_of_mem_set hx with e | e
  · exact h x e
  · rw [e]; exact hc
theorem sm_rep {n k : Nat} : Sm n (List.replicate k 0) := fun x hx => by
  rw [List.eq_of_mem_replicate hx]; exact Nat.zero_le _
theorem getD_set {a : List Int} {i k : Nat} {c : Int} (h : i < a.length) : (a.set i c).getD k 0 = if k = i then c else a.getD k 0 := by
  rw [List.getD_eq_getElem?_getD, List.getElem?_set]
  by_cases e : i = k
  · subst e; rw [if_pos rfl, if_pos h, if_pos rfl]; rfl
  · rw [if_neg e, if_neg (fun z => e z.symm), List.getD_eq_getElem?_getD]
theorem getD_rep {n k : Nat} : (List.replicate n (0 : Int)).getD k 0 = 0 := by
  rw [List.getD_eq_getElem?_getD, List.getElem?_replicate]
  split <;> rfl
theorem set_mapI (a : List Int) (i : Nat) (c : Int) : (a.map V.int).set i (.int c) = (a.set i c).map V.int := (List.map_set ..).symm
section
variable {P : Program} {w : World} {K : PySem.W.Frag} {mg : Str → Option Value} {base : Heap} {aW aT : Addr} {es : Array DictEntry} {nn : Nat}
abbrev s_Lrow : Stmt := topS 51
abbrev n_Lrow : List Str := ["deal", "turns", "values", "many", "amounts", "one", "other", "sign", "total"]
theorem sc_Lrow : FnScope n_Lrow ["deal", "turns", "values"] (defScope s_Lrow) := ⟨rfl, rfl, rfl, by decide +kernel, rfl, by decide +kernel, by decide +kernel⟩
def spLRow : Sp := fun vs H Q _ => ∃ (h q pt px : Addr) (ts xs : List Int), vs = [.ref h, .ref pt, .ref px] ∧ HpAt H h q ∧ H pt = some (tL ts) ∧ H px = some (tL xs) ∧ pt ≠ h ∧ pt ≠ q ∧ px ≠ h ∧ px ≠ q ∧ xs.length = ts.length ∧ 1 ≤ ts.length ∧ ts.length ≤ 6 ∧ Pm ts ∧
  ∀ H' p r, RV H' (.ref p) r → GoodR ts xs r → HpAt H' h q → Kpt h q H H' → Q (.ref p) H'
theorem ok_Lrow {f : Addr} {fd : FuncData} (F : Fun K "_law_row" "_law_row" s_Lrow f fd) (T : Txt K mg w aW aT es nn) (c_Lany : Cal P w K mg base 1 "_law_any" spDraw []) (c_Lof : Cal P w K mg base 2 "_law_of" spPickL []) (c_Lsum : Cal P w K mg base 1 "_law_sum" spLSum []) : FnOk P w K mg base CX0 3 f fd ["deal", "turns", "values"] spLRow := by
  refine F.ok sc_Lrow (fun vs H Q E h => ?_) (fun cdv A outer s H vs Q E hr h => ?_)
  · obtain ⟨h, q, pt, px, ts, xs, rfl, _⟩ := h
    rfl
  · obtain ⟨h, q, pt, px, ts, xs, rfl, a0, hpt, hpx, t1, t2, x1, x2, lx, n1, n6, pm, fin⟩ := h
    refine ⟨_, (pss_cons (ps_set (i := 3) sc_Lrow.nd rfl (.inl rfl) (pe_callB call_len_seq (by rfl) T.b_len (by decide +kernel) (pa_cons (pv 1) pa_nil)))
      (pss_cons (ps_set (i := 4) sc_Lrow.nd rfl (.inl rfl) (pe_op op_rep (pe_lst (pa_cons pe_int pa_nil)) (pv 3)))
      (pss_cons (ps_par3 (i := 5) (j := 6) (l := 7) (by rfl) sc_Lrow.nd rfl rfl rfl (by decide) (by decide) (by decide) rfl rfl rfl (pa_cons (pe_c c_Lany hr (by decide) (by rfl) (pa_cons (pv 0) (pa_cons (pv 3) pa_nil))) (pa_cons (pe_c c_Lany hr (by decide) (by rfl) (pa_cons (pv 0) (pa_cons (pv 3) pa_nil))) (pa_cons (pe_c c_Lof hr (by decide) (by rfl) (pa_cons (pv 0) (pa_cons (pe_lst (pa_cons pe_int (pa_cons (pe_un un_neg pe_int) pa_nil))) pa_nil))) pa_nil))) (by rfl))
      (pss_cons (ps_asg (pe_op op_mul (pv 7) (pe_ix ix_list (pv 1) (pv 5) (fun _ _ => rfl))) (pg_sub (pv 4) (pv 5) set_list))
      (pss_cut (ps_if (pt_cmpR op_ne (pv 6) (pv 5) (nomark _)) (pss_one (ps_asg (pe_op op_mul (pe_un un_neg (pv 7)) (pe_ix ix_list (pv 1) (pv 6) (fun _ _ => rfl))) (pg_sub (pv 4) (pv 6) set_list))) pss_nil)
      (pss_cons (ps_set (i := 8) sc_Lrow.nd rfl (.inl rfl) (pe_c c_Lsum hr (by decide) (by rfl) (pa_cons (pv 4) (pa_cons (pv 2) pa_nil))))
      (pss_cut (ps_if (PW.pt (pw_and (pt_cmpR op_eq (pe_op op_mod (pe_callTy call_int1 (by rfl) T.b_int (by decide +kernel) (pa_cons (pv 8) pa_nil)) pe_int) pe_int (nomark _)) (pw_and1 (pt_cmpR op_eq (pe_c c_Lany hr (by decide) (by rfl) (pa_cons (pv 0) (pa_cons pe_int pa_nil))) pe_int (nomark _))))) (pss_one (ps_ret (pe_tup (pa_cons pe_str (pa_cons (pe_callTy call_tuple_of (by rfl) T.b_tuple (by decide +kernel) (pa_cons (pv 4) pa_nil)) (pa_cons pe_bl (pa_cons (pe_op op_fdiv (pv 8) pe_int) pa_nil))))))) pss_nil)
      (pss_one (ps_ret (pe_tup (pa_cons pe_str (pa_cons (pe_callTy call_tuple_of (by rfl) T.b_tuple (by decide +kernel) (pa_cons (pv 4) pa_nil)) (pa_cons pe_bl (pa_cons (pe_op op_sub (pe_op op_fdiv (pv 8) pe_int) (pe_c c_Lof hr (by decide) (by rfl) (pa_cons (pv 0) (pa_cons (pe_lst (pa_cons pe_int (pa_cons pe_int (pa_cons pe_int (pa_cons pe_int pa_nil))))) pa_nil)))) pa_nil)))))))))))))), ?_⟩
    refine ⟨_, rfl, pt, _, rfl, .inl (sq_lst hpt), ?_⟩
    rw [List.length_map]
    refine ⟨len1, fun l0 nl0 => ⟨_, rfl, l0, _, _, rfl, rfl, upd_same, by omega, by omega, ?_, fun l nl => ?_⟩⟩
    · rw [List.length_singleton, Int.toNat_natCast, sizeLine_eq]; omega
    rw [repf, Int.toNat_natCast]
    have k0 := same_upd (o := .lst [.int 0]) nl0
    have k1 := k0.trans (same_upd (o := .lst (List.replicate ts.length (.int 0))) nl)
    have nlH : H l = none := k0.free nl
    obtain ⟨l1, l2⟩ := a0.fresh nlH
    have el : upd (upd H l0 (.lst [.int 0])) l (.lst (List.replicate ts.length (.int 0))) l = some (tL (List.replicate ts.length 0)) := by rw [upd_same]; unfold tL; rw [List.map_replicate]
    have a1 := a0.same k1
    have kp1 : Kpt h q H _ := .of_same k1
    generalize upd (upd H l0 (.lst [.int 0])) l (.lst (List.replicate ts.length (.int 0))) = H1 at *
    refine ⟨_, rfl, _, rfl, h, q, _, rfl, a1, by omega, by omega, fun x H2 x0 xn a2 kp2 => ?_⟩
    obtain ⟨x, rfl⟩ : ∃ j : Nat, x = (j : Int) := ⟨x.toNat, by omega⟩
    refine ⟨_, rfl, _, rfl, h, q, _, rfl, a2, by omega, by omega, fun y H3 y0 yn a3 kp3 => ?_⟩
    obtain ⟨y, rfl⟩ : ∃ j : Nat, y = (j : Int) := ⟨y.toNat, by omega⟩
    have xl : x < ts.length := by omega
    have yl : y < ts.length := by omega
    refine ⟨_, rfl, _, rfl, len2, fun p1 np1 => ?_⟩
    have kq := same_upd (o := .lst [.int 1, .int (-1)]) np1
    obtain ⟨f1, f2⟩ := a3.fresh np1
    refine ⟨h, q, p1, _, rfl, a3.same kq, upd_same, f1, f2, by simp, by show 2 ≤ 1000; decide, fun v H4 mv a4 kp4 => ?_⟩
    obtain ⟨s, rfl, hs⟩ : ∃ s, v = V.int s ∧ (s = 1 ∨ s = -1) := by
      rcases List.mem_cons.mp mv with e | e
      · exact ⟨1, e, .inl rfl⟩
      · exact ⟨-1, List.mem_singleton.mp e, .inr rfl⟩
    have kp14 := ((kp2.trans kp3).trans (.of_same (h := h) (q := q) kq)).trans kp4
    have kp04 := kp1.trans kp14
    have el4 := kp14 _ _ el l1 l2
    have hpt4 := kp04 _ _ hpt t1 t2
    have hpx4 := kp04 _ _ hpx x1 x2
    have htx : ts[x]? = some (ts.getD x 0) := by rw [List.getD_eq_getElem?_getD, List.getElem?_eq_getElem xl]; rfl
    have hty : ts[y]? = some (ts.getD y 0) := by rw [List.getD_eq_getElem?_getD, List.getElem?_eq_getElem yl]; rfl
    have px1 := pm _ (List.mem_of_getElem? htx)
    have py1 := pm _ (List.mem_of_getElem? hty)
    refine ⟨_, _, _, rfl, ?_⟩
    refine ⟨_, rfl, _, rfl, _, rfl, pt, _, _, .int (ts.getD x 0), rfl, rfl, sq_lst hpt4, atI_nat (by rw [List.getElem?_map, htx]; rfl), _, _, rfl, rfl, .inl ⟨by omega, by omega⟩, _, rfl, _, rfl, l, _, (x : Nat), x, rfl, rfl, el4, ixN_nat (by rw [List.length_map, List.length_replicate]; exact xl), ?_⟩
    rw [set_mapI]
    have el5 : upd H4 l (.lst (((List.replicate ts.length 0).set x (s * ts.getD x 0)).map V.int)) l = some (tL ((List.replicate ts.length 0).set x (s * ts.getD x 0))) := upd_same
    have kp05 : Kpt h q H _ := kp04.at_new (o := .lst (((List.replicate ts.length 0).set x (s * ts.getD x 0)).map V.int)) nlH
    have a5 := a4.upd (o := .lst (((List.replicate ts.length 0).set x (s * ts.getD x 0)).map V.int)) l1 l2
    generalize upd H4 l (.lst (((List.replicate ts.length 0).set x (s * ts.getD x 0)).map V.int)) = H5 at *
    have ls : ((List.replicate ts.length (0 : Int)).set x (s * ts.getD x 0)).length = ts.length := by rw [List.length_set, List.length_replicate]
    refine ⟨fun σ H' => ∃ A : List Int, σ = [some (.ref h), some (.ref pt), some (.ref px), some (.int (ts.length : Nat)), some (.ref l), some (.int (x : Nat)), some (.int (y : Nat)), some (.int s), none] ∧ H' l = some (tL A) ∧ HpAt H' h q ∧ Kpt h q H H' ∧ A.length = ts.length ∧ Sm 3 A ∧ A.getD x 0 = s * ts.getD x 0 ∧ (y ≠ x → A.getD y 0 = -s * ts.getD y 0) ∧ ∀ k, k ≠ x → k ≠ y → A.getD k 0 = 0, ?_, fun σ H6 hM => ?_⟩
    · refine ⟨_, rfl, _, rfl, rfl, _, rfl, ite2 (fun ne => ?_) (fun ne => ?_)⟩
      · have ne : y ≠ x := fun e => by rw [e] at ne; simp at ne
        refine ⟨_, rfl, _, rfl, _, rfl, _, rfl, pt, _, _, .int (ts.getD y 0), rfl, rfl, sq_lst (kp05 _ _ hpt t1 t2), atI_nat (by rw [List.getElem?_map, hty]; rfl), _, _, rfl, rfl, .inl ⟨by omega, by omega⟩, _, rfl, _, rfl, l, _, (y : Nat), y, rfl, rfl, el5, ixN_nat (by rw [List.length_map, ls]; exact yl), ?_⟩
        rw [set_mapI]
        refine ⟨_, rfl, upd_same, a5.upd l1 l2, kp05.at_new nlH, by rw [List.length_set, ls], sm_set (sm_set sm_rep (by rcases hs with rfl | rfl <;> rcases px1 with e | e <;> rw [e] <;> decide)) (by rcases hs with rfl | rfl <;> rcases py1 with e | e <;> rw [e] <;> decide), ?_, fun _ => ?_, fun k k1 k2 => ?_⟩
        · rw [getD_set (by omega), if_neg (fun e => ne e.symm), getD_set (by rw [List.length_replicate]; exact xl), if_pos rfl]
        · rw [getD_set (by omega), if_pos rfl]
        · rw [getD_set (by omega), if_neg k2, getD_set (by rw [List.length_replicate]; exact xl), if_neg k1, getD_rep]
      · have ne : y = x := by
          have : V.int (y : Int) = V.int (x : Int) := by simpa using ne
          have := V.int.inj this
          omega
        refine ⟨_, rfl, el5, a5, kp05, ls, sm_set sm_rep (by rcases hs with rfl | rfl <;> rcases px1 with e | e <;> rw [e] <;> decide), ?_, fun z => absurd ne z, fun k k1 k2 => ?_⟩
        · rw [getD_set (by rw [List.length_replicate]; exact xl), if_pos rfl]
        · rw [getD_set (by rw [List.length_replicate]; exact xl), if_neg k1, getD_rep]
    · obtain ⟨A, rfl, el6, a6, kp6, lA, sA, Ax, Ay, A0⟩ := hM
      have fitA : ∀ e b, fitR ts ⟨A, e, b⟩ = true := fun e b => fit_of (r := ⟨A, e, b⟩) hs (fun k hk => by rcases hk with rfl | rfl; exact px1; exact py1) Ax Ay A0
      have nzA : ∃ c ∈ A, c ≠ 0 := ⟨A.getD x 0, by rw [List.getD_eq_getElem?_getD, List.getElem?_eq_getElem (by omega)]; exact List.getElem_mem (by omega), by rw [Ax]; rcases hs with rfl | rfl <;> rcases px1 with e | e <;> rw [e] <;> decide⟩
      refine ⟨_, rfl, _, rfl, .ref l, .ref px, A, xs, rfl, ⟨l, rfl, .inl el6⟩, ⟨px, rfl, .inl (kp6 _ _ hpx x1 x2)⟩, by omega, by omega, fun c hc => Nat.le_trans (sA c hc) (by decide), fun H7 s7 => ?_⟩
      have el7 := s7 _ _ el6
      have a7 := a6.same s7
      have kp7 := kp6.trans (.of_same (h := h) (q := q) s7)
      generalize hd : dot A xs = D at *
      have nlz : ∀ {H' : Hp}, Kpt h q H H' → True := fun _ => trivial
      refine ⟨fun σ H' => σ = [some (.ref h), some (.ref pt), some (.ref px), some (.int (ts.length : Nat)), some (.ref l), some (.int (x : Nat)), some (.int (y : Nat)), some (.int s), some (.int D)] ∧ H' l = some (tL A) ∧ HpAt H' h q ∧ Kpt h q H H', ?_, fun σ H8 hM => ?_⟩
      · refine ⟨_, rfl, .inl ⟨_, rfl, _, _, rfl, rfl, (by show (0 : Int) < 12; decide), rfl, _, rfl, ite2 (fun z => ?_) (fun z => ?_)⟩⟩
        · have z : D % 12 = 0 := V.int.inj (of_decide_eq_true z)
          refine ⟨_, rfl, h, q, 3, rfl, a7, by decide, by decide, fun d H8 d0 d1 a8 kp8 => ⟨rfl, _, rfl, ite2 (fun w => ?_) (fun w => ?_)⟩⟩
          · have el8 := kp8 _ _ el7 l1 l2
            refine ⟨_, rfl, l, _, rfl, .inl ⟨sq_lst el8, fun p np => ?_⟩⟩
            refine ⟨_, rfl, _, _, rfl, rfl, ⟨by decide, by decide⟩, len4, fun p2 np2 => ?_⟩
            obtain ⟨g1, g2⟩ := a8.fresh np
            have ka := same_upd (o := .tup (A.map V.int)) np
            have kb := same_upd (o := .tup [.str "sum", .ref p, .bl true, .int (D / 12)]) np2
            exact fin _ p2 ⟨A, true, D / 12⟩ ⟨p2, p, rfl, upd_same, kb _ _ upd_same⟩ ⟨lA, fitA _ _, nzA, sA, by show 12 * (D / 12) ≤ dot A xs; omega, fun _ => by show dot A xs = 12 * (D / 12); omega⟩ ((a8.same ka).same kb) ((kp7.trans kp8).trans (.of_same (ka.trans kb)))
          · exact ⟨rfl, kp8 _ _ el7 l1 l2, a8, kp7.trans kp8⟩
        · exact ⟨rfl, el7, a7, kp7⟩
      · obtain ⟨rfl, el8, a8, kp8⟩ := hM
        refine ⟨_, rfl, l, _, rfl, .inl ⟨sq_lst el8, fun p np => ?_⟩⟩
        have ka := same_upd (o := .tup (A.map V.int)) np
        have a9 := a8.same ka
        have ep : upd H8 p (.tup (A.map V.int)) p = some (tI A) := upd_same
        generalize upd H8 p (.tup (A.map V.int)) = H9 at *
        refine ⟨_, rfl, _, _, rfl, rfl, ⟨by decide, by decide⟩, _, rfl, len4, fun p2 np2 => ?_⟩
        have kb := same_upd (o := .lst [.int 0, .int 0, .int 1, .int 3]) np2
        obtain ⟨g1, g2⟩ := a9.fresh np2
        refine ⟨h, q, p2, _, rfl, a9.same kb, upd_same, g1, g2, by simp, by show 4 ≤ 1000; decide, fun v HA mv aA kpA => ?_⟩
        obtain ⟨d, rfl, d0⟩ : ∃ d, v = V.int d ∧ 0 ≤ d := by
          simp only [List.mem_cons, List.not_mem_nil, or_false] at mv
          rcases mv with e | e | e | e
          · exact ⟨0, e, by decide⟩
          · exact ⟨0, e, by decide⟩
          · exact ⟨1, e, by decide⟩
          · exact ⟨3, e, by decide⟩
        have kpB := ((kp8.trans (.of_same (h := h) (q := q) (ka.trans kb))).trans kpA)
        have np' : p ≠ h ∧ p ≠ q := a8.fresh np
        have epA := kpA _ _ (kb _ _ ep) np'.1 np'.2
        refine ⟨_, _, rfl, rfl, len4, fun p3 np3 => ?_⟩
        have kc := same_upd (o := .tup [.str "sum", .ref p, .bl false, .int (D / 12 - d)]) np3
        exact fin _ p3 ⟨A, false, D / 12 - d⟩ ⟨p3, p, rfl, upd_same, kc _ _ epA⟩ ⟨lA, fitA _ _, nzA, sA, by show 12 * (D / 12 - d) ≤ dot A xs; omega, fun e => nomatch e⟩ (aA.same kc) (kpB.trans (.of_same kc))
end
end M57

namespace M57
open PySem PySem.Spec PyProof.Rows L2 SX Own Gd
open C8 (Cal pe_c pe_gc pe_mk Mak pss_cut)
theorem one_ge {s y m b : Int} (hs : s = 1 ∨ s = -1) (m1 : 1 ≤ m) (m2 : m ≤ 12) (h : s * y ≤ 12 * b) : s * (y / 12 + if m ≤ y - 12 * (y / 12) then 1 else 0) ≤ b := by
  rcases hs with rfl | rfl <;> split <;> omega
theorem two_ge {s y z m b : Int} (hs : s = 1 ∨ s = -1) (m1 : 1 ≤ m) (m2 : m ≤ 12) (h : s * y - s * z ≤ 12 * b) : s * (y / 12 + if m ≤ y - 12 * (y / 12) then 1 else 0) - s * (z / 12 + if m ≤ z - 12 * (z / 12) then 1 else 0) ≤ b := by
  rcases hs with rfl | rfl <;> split <;> split <;> omega
theorem keeps_row_ge {r : Row} {ts xs : List Int} (pm : Pm ts) (lx : xs.length = ts.length) (lr : r.am.length = ts.length) (fit : fitR ts r = true) {m : Int} (m1 : 1 ≤ m) (m2 : m ≤ 12) (b : Int) (h : dot r.am xs ≤ 12 * b) : dot r.am (pt ts xs m) ≤ b := by
  rw [dot_nzl (by omega)] at h
  rw [dot_nzl (by rw [pt_len _ _ _ lx]; omega)]
  unfold fitR at fit
  rw [Bool.and_eq_true] at fit
  obtain ⟨ok, two⟩ := fit
  have l2 : (nzl r).length ≤ 2 := by
    unfold okR at ok
    rw [Bool.and_eq_true] at ok
    exact of_decide_eq_true ok.1
  have ev : ∀ k ∈ nzl r, ∃ t x, xs.getD k 0 = x ∧ ts.getD k 0 = t ∧ (pt ts xs m).getD k 0 = ptF m (t, x) ∧ (t = 1 ∨ t = -1) := fun k hk => by
    have kl := nzl_lt hk
    have ht : ts[k]? = some (ts[k]'(by omega)) := List.getElem?_eq_getElem (by omega)
    have hx : xs[k]? = some (xs[k]'(by omega)) := List.getElem?_eq_getElem (by omega)
    refine ⟨ts[k]'(by omega), xs[k]'(by omega), ?_, ?_, ?_, pm _ (List.getElem_mem (by omega))⟩
    · rw [List.getD_eq_getElem?_getD, hx]; rfl
    · rw [List.getD_eq_getElem?_getD, ht]; rfl
    · rw [List.getD_eq_getElem?_getD, pt_at ht hx]; rfl
  match hn : nzl r, l2 with
  | [], _ =>
    rw [hn] at h
    simp only [List.map_nil, List.sum_nil] at h ⊢
    omega
  | [a], _ =>
    obtain ⟨t, x, e1, e2, e3, e4⟩ := ev a (by rw [hn]; simp)
    have ca := okR_one ok (k := a) (by rw [hn]; simp)
    rw [hn] at h
    simp only [List.map_cons, List.map_nil, List.sum_cons, List.sum_nil, Int.add_zero, e1, e3] at h ⊢
    have := one_ge (s := cf r a * t) (y := t * x) (m := m) (b := b) (pm_mul ca e4) m1 m2 (by rw [tt_mul e4]; exact h)
    unfold ptF abF
    dsimp only
    rw [← Int.mul_assoc]
    exact this
  | [a, c], _ =>
    obtain ⟨t, x, e1, e2, e3, e4⟩ := ev a (by rw [hn]; simp)
    obtain ⟨u, z, f1, f2, f3, f4⟩ := ev c (by rw [hn]; simp)
    have ca := okR_one ok (k := a) (by rw [hn]; simp)
    have cc := okR_one ok (k := c) (by rw [hn]; simp)
    rw [hn] at h two
    have two := of_decide_eq_true two
    unfold sgv at two
    rw [e2, f2] at two
    simp only [List.map_cons, List.map_nil, List.sum_cons, List.sum_nil, Int.add_zero, e1, e3, f1, f3] at h ⊢
    have cu : cf r c * u = -(cf r a * t) := by omega
    have hz : cf r c * z = -(cf r a * t) * (u * z) := by
      rw [← cu]
      exact (tt_mul f4).symm
    have hx : cf r a * x = cf r a * t * (t * x) := (tt_mul e4).symm
    have := two_ge (s := cf r a * t) (y := t * x) (z := u * z) (m := m) (b := b) (pm_mul ca e4) m1 m2 (by
      rw [hx, hz, Int.neg_mul] at h
      omega)
    unfold ptF abF
    dsimp only
    rw [← Int.mul_assoc, ← Int.mul_assoc, cu, Int.neg_mul]
    omega
/-! ### pairs shown -/
def dPr (l : List (Fr × List Int)) : PyData := .tuple (l.map fun x => .tuple [.tuple [.int x.1.1, .int x.1.2], dI x.2])
theorem dpPr {K : PySem.W.Frag} {H : Hp} : ∀ {us : List V} {l : List (Fr × List Int)}, All2 (PP H) us l → DpAll K H us (l.map fun x => .tuple [.tuple [.int x.1.1, .int x.1.2], dI x.2])
  | _, _, .nil => .nil
  | _, _, .cons ⟨p, u, u2, e, hp, ⟨q, eq, hq⟩, ⟨q2, eq2, hq2⟩⟩ t => by
    subst e eq eq2
    exact .cons (.tup (sq_tup hp) (.cons (.tup (sq_tup hq) (.cons (.int _) (.cons (.int _) .nil))) (.cons (dpI hq2) .nil))) (dpPr t)
structure PrOk (x : Fr × List Int) : Prop where
  a : Sh12 x.1.1
  b : Sh12 x.1.2
  c : ∀ c ∈ x.2, Sh12 c
  l : x.2.length ≤ 6
theorem prs : ∀ {l : List (Fr × List Int)}, (∀ x ∈ l, PrOk x) → PyData.showableAll (l.map fun x => .tuple [.tuple [.int x.1.1, .int x.1.2], dI x.2]) = true ∧ PyData.hasDictAll (l.map fun x => .tuple [.tuple [.int x.1.1, .int x.1.2], dI x.2]) = false ∧ PyData.depthAll (l.map fun x => .tuple [.tuple [.int x.1.1, .int x.1.2], dI x.2]) ≤ 8 ∧
    PyData.leavesShortAll 13 (l.map fun x => .tuple [.tuple [.int x.1.1, .int x.1.2], dI x.2]) = true ∧ PyData.weightAll (l.map fun x => .tuple [.tuple [.int x.1.1, .int x.1.2], dI x.2]) ≤ 1000 * l.length
  | [], _ => by simp [PyData.showableAll, PyData.hasDictAll, PyData.depthAll, PyData.leavesShortAll, PyData.weightAll]
  | x :: l, h => by
    obtain ⟨h1, h2, h3, h4, h5⟩ := prs (l := l) fun d hd => h d (List.mem_cons_of_mem _ hd)
    obtain ⟨xa, xb, xc, xl⟩ := h x (List.mem_cons_self ..)
    obtain ⟨g1, g2, g3, g4, g5⟩ := intsS xc
    have wa := intW xa
    have wb := intW xb
    have la := log12 xa
    have lb := log12 xb
    have sa : (PyData.int x.1.1).showable = true := by simp only [PyData.showable]; exact decide_eq_true (by omega)
    have sb : (PyData.int x.1.2).showable = true := by simp only [PyData.showable]; exact decide_eq_true (by omega)
    unfold dI at *
    refine ⟨?_, ?_, ?_, ?_, ?_⟩
    · simp only [List.map_cons, PyData.showableAll, h1, Bool.and_true, PyData.showable.eq_def (PyData.tuple _), sa, sb, g1]
    · simp only [List.map_cons, PyData.hasDictAll, PyData.hasDict, h2, g2, Bool.or_false]
    · simp only [List.map_cons, PyData.depthAll, PyData.depth, g3]; omega
    · simp only [List.map_cons, PyData.leavesShortAll, h4, Bool.and_true, PyData.leavesShort.eq_def _ (PyData.tuple _), intL xa, intL xb, g4]
    · simp only [List.map_cons, PyData.weightAll, List.length_cons, PyData.weight.eq_def (PyData.tuple _)]; omega
theorem prT {l : List (Fr × List Int)} (h : ∀ x ∈ l, PrOk x) (n : l.length ≤ 13) : DS 41100 (dPr l) := by
  obtain ⟨h1, h2, h3, h4, h5⟩ := prs h
  unfold dPr
  refine ⟨?_, ?_, ?_, ?_, ?_⟩
  · simp only [PyData.showable, h1]
  · simp only [PyData.hasDict, h2]
  · simp only [PyData.depth]; omega
  · simp only [PyData.leavesShort, h4]
  · simp only [PyData.weight]; omega
/-! ### the last mark -/
theorem last_12 {ts xs : List Int} : lastF (mkI ts xs 12) (mkI ts xs 12).length = 12 := by
  have m12 : (12 : Int) ∈ mkI ts xs 12 := mkI_mem.mpr ⟨by decide, .inr rfl⟩
  obtain ⟨j, hj⟩ := List.mem_iff_getElem?.mp m12
  obtain ⟨lj, ej⟩ := List.getElem?_eq_some_iff.mp hj
  obtain ⟨n, hn⟩ : ∃ n, (mkI ts xs 12).length = n + 1 := ⟨(mkI ts xs 12).length - 1, by omega⟩
  rw [hn]
  have ln : n < (mkI ts xs 12).length := by omega
  rw [lastF_succ (List.getElem?_eq_getElem ln)]
  have b := (mkI_mem.mp (List.getElem_mem ln)).1.2
  rcases Nat.lt_or_ge j n with h | h
  · have := List.pairwise_iff_getElem.mp (mkI_inc ts xs 12) j n lj ln h
    omega
  · obtain rfl : j = n := by omega
    exact ej
theorem mixF_0 {ts xs : List Int} (h : xs.length = ts.length) : mixF ts xs 0 = List.replicate ts.length 0 := by
  refine List.eq_replicate_iff.mpr ⟨?_, fun b hb => ?_⟩
  · unfold mixF
    rw [List.length_map, List.length_zip, h, Nat.min_self]
  · obtain ⟨p, hp, rfl⟩ := List.mem_map.mp hb
    have := (ab_bd p).1
    rw [Int.min_eq_left this]; simp
theorem mixF_12 : ∀ {ts xs : List Int}, Pm ts → xs.length = ts.length → mixF ts xs 12 = xs
  | [], [], _, _ => rfl
  | t :: ts, x :: xs, pm, h => by
    have ih := mixF_12 (ts := ts) (xs := xs) (fun y hy => pm y (List.mem_cons_of_mem _ hy)) (by simpa using h)
    unfold mixF at ih ⊢
    rw [List.zip_cons_cons, List.map_cons, ih, mix_end (pm t (List.mem_cons_self ..))]
  | [], _ :: _, _, h => by simp at h
  | _ :: _, [], _, h => by simp at h
end M57

namespace M57
open PySem PySem.Spec PyProof.Rows L2 SX Own Gd
open C8 (Cal pe_c pe_gc pe_mk Mak pss_cut)
/-- the task's parts fit the start -/
structure Wnt (ul : List Unk) (rl : List Row) (xs : List Int) : Prop where
  lx : xs.length = ul.length
  n1 : 1 ≤ ul.length
  n6 : ul.length ≤ 6
  bd : ∀ x ∈ xs, x.natAbs ≤ 1000
  rl7 : rl.length ≤ 7
  rs : ∀ r ∈ rl, r.am.length = ul.length ∧ Sm 3 r.am ∧ 12 * r.bd ≤ dot r.am xs ∧ (r.eq = true → dot r.am xs = 12 * r.bd)
  en : ∀ (k : Nat) u x, ul[k]? = some u → xs[k]? = some x → u.2.1 ≤ x / 12 ∧ -(-x / 12) ≤ u.2.2
theorem rsv_of {H : Hp} : ∀ {us : List V} {rl : List Row}, WVs H us (rl.map .sum) → All2 (RV H) us rl
  | _, [], .nil => .nil
  | _, r :: rl, .cons h t => .cons h (rsv_of t)
theorem pt_bd {ts xs : List Int} {m : Int} (pm : Pm ts) (bd : ∀ x ∈ xs, x.natAbs ≤ 1000) : ∀ c ∈ pt ts xs m, Sh12 c := fun c hc => by
  obtain ⟨⟨t, x⟩, hp, rfl⟩ := List.mem_map.mp hc
  have h1 := pm t (List.of_mem_zip hp).1
  have h2 := bd x (List.of_mem_zip hp).2
  unfold Sh12 ptF
  dsimp only
  have e : (10 : Nat) ^ 12 = 1000000000000 := by decide
  rw [e]
  rcases h1 with rfl | rfl <;> split <;> omega
theorem keeps_pt {ul : List Unk} {rl : List Row} {xs ts : List Int} (W : Wnt ul rl xs) (lt : ts.length = ul.length) (pm : Pm ts) (fit : ∀ r ∈ rl, fitR ts r = true) {m : Int} (m1 : 1 ≤ m) (m2 : m ≤ 12) :
    (pt ts xs m).length = ul.length ∧ (∀ (k : Nat) u c, ul[k]? = some u → (pt ts xs m)[k]? = some c → u.2.1 ≤ c ∧ c ≤ u.2.2) ∧ ∀ r ∈ rl, r.bd ≤ dot r.am (pt ts xs m) ∧ (r.eq = true → dot r.am (pt ts xs m) = r.bd) := by
  have lx := W.lx
  refine ⟨(pt_len ts xs m (by omega)).trans lt, fun k u c hu hc => ?_, fun r hr => ?_⟩
  · have kl : k < ul.length := (List.getElem?_eq_some_iff.mp hu).1
    have ht : ts[k]? = some (ts[k]'(by omega)) := List.getElem?_eq_getElem (by omega)
    have hx : xs[k]? = some (xs[k]'(by omega)) := List.getElem?_eq_getElem (by omega)
    rw [pt_at ht hx] at hc
    obtain ⟨h1, h2⟩ := W.en k u _ hu hx
    cases hc
    exact ends_ok (pm _ (List.getElem_mem (by omega))) m1 m2 h1 h2
  · obtain ⟨r1, r2, r3, r4⟩ := W.rs r hr
    have lo := keeps_row pm (by omega) (by omega) (fit r hr) m1 m2 r.bd r3
    refine ⟨lo, fun he => ?_⟩
    have := keeps_row_ge (xs := xs) pm (by omega) (by omega) (fit r hr) m1 m2 r.bd (by have := r4 he; omega)
    omega
section
variable {P : Program} {w : World} {K : PySem.W.Frag} {mg : Str → Option Value} {base : Heap} {aW aT : Addr} {es : Array DictEntry} {nn : Nat}
abbrev s_Lright : Stmt := topS 57
abbrev n_Lright : List Str := ["task", "turns", "start", "values", "pairs", "mark", "point", "due", "mixed", "last", "k"]
theorem sc_Lright : FnScope n_Lright ["task", "turns", "start", "values"] (defScope s_Lright) := ⟨rfl, rfl, rfl, by decide +kernel, rfl, by decide +kernel, by decide +kernel⟩
def spRight (C : Addr) : Sp := fun vs H Q _ => ∃ (tv nv sv : V) (px : Addr) (ul : List Unk) (rl : List Row) (goal ts xs : List Int), vs = [tv, nv, sv, .ref px] ∧ TaskV C H tv ul (rl.map .sum) goal ∧ LV H nv ts ∧ SV H sv (stF xs) ∧ H px = some (tL xs) ∧ Wnt ul rl xs ∧ ts.length = ul.length ∧ Pm ts ∧ (∀ r ∈ rl, fitR ts r = true) ∧ ∀ H', Same H H' → Q (.bl true) H'
theorem ok_Lright {f C : Addr} {fd : FuncData} (F : Fun K "_law_right" "_law_right" s_Lright f fd) (T : Txt K mg w aW aT es nn) (cc : CC K C) (c_Lturned : Cal P w K mg base 1 "_law_turned" spTurned []) (c_Llow : Cal P w K mg base 1 "_law_low" spLow []) (c_Lkeeps : Cal P w K mg base 2 "_law_keeps" spKeeps []) (k_threshold_points_turns_start : CalK P w K mg base 3 "threshold_points" ["turns", "start"] sw spThr) : FnG P w K mg base CX0 4 f fd ["task", "turns", "start", "values"] (spRight C) := by
  refine fun_okG F sc_Lright (fun vs H Q E h => ?_) (fun cdv A outer s H vs Q E hgd hr h => ?_)
  · obtain ⟨tv, nv, sv, px, ul, rl, goal, ts, xs, rfl, _⟩ := h
    rfl
  · obtain ⟨tv, nv, sv, px, ul, rl, goal, ts, xs, rfl, tk0, nv0, sv0, hpx, W, lt, pm, fit, fin⟩ := h
    obtain ⟨x, dx, pu, pw, pg, us, ws, rfl, hx, hpu, uv, hpw, wv, hpg⟩ := id tk0
    have lx := W.lx
    have n6 := W.n6
    have bd := W.bd
    refine ⟨_, (pss_cons (ps_set (i := 4) sc_Lright.nd rfl (.inl rfl) (pe_c c_Lturned hr (by decide) (by rfl) (pa_cons (pv 3) (pa_cons (pv 1) pa_nil))))
      (pss_cons (ps_set (i := 7) sc_Lright.nd rfl (.inl rfl) (pe_callTy call_tuple_of (by rfl) T.b_tuple (by decide +kernel) (pa_cons (pe_lc (own := [("mark", 5), ("point", 6)]) (g := gTup K 2 (gCons (gName 5) (gCons (gName 6) gNil))) rfl sc_Lright.nd (pi_list (pv 4)) (blkOk_by (N := n_Lright) (sc := defScope s_Lright) (by decide +kernel)) (fun _ _ _ _ _ => (pg_tup rfl (pgs_cons (pg_name (i := 5) sc_Lright.nd rfl (.inl rfl)) (pgs_cons (pg_name (i := 6) sc_Lright.nd rfl (.inl rfl)) pgs_nil)))) (fun _ _ _ _ _ => pts_nil) (fun _ _ _ _ _ => (pe_tup (pa_cons (pe_c c_Llow hr (by decide) (by rfl) (pa_cons (pv 5) (pa_cons pe_int pa_nil))) (pa_cons (pv 6) pa_nil))))) pa_nil)))
      (pss_cons (ps_if (pt_cmpR op_ne (pe_callB (call_show hgd hr.units) (by rfl) T.b_repr (by decide +kernel) (pa_cons (pe_kw k_threshold_points_turns_start hr (by decide) (by rfl) (pk_cons (pv 1) (pk_cons (pv 2) pk_nil))) pa_nil)) (pe_callB (call_show hgd hr.units) (by rfl) T.b_repr (by decide +kernel) (pa_cons (pv 7) pa_nil)) (nomark _)) (pss_one (ps_ret pe_bl)) pss_nil)
      (pss_cons (ps_asg (pe_tup (pa_cons (pe_op op_rep (pe_lst (pa_cons pe_int pa_nil)) (pe_callB call_len_seq (by rfl) T.b_len (by decide +kernel) (pa_cons (pv 3) pa_nil))) (pa_cons pe_int pa_nil))) (pg_tup rfl (pgs_cons (pg_name (i := 8) sc_Lright.nd rfl (.inr rfl)) (pgs_cons (pg_name (i := 9) sc_Lright.nd rfl (.inr rfl)) pgs_nil))))
      (pss_cons (ps_for PassesOwn.never rfl (pi_list (pv 4)) (pg_tup rfl (pgs_cons (pg_name (i := 5) sc_Lright.nd rfl (.inr rfl)) (pgs_cons (pg_name (i := 6) sc_Lright.nd rfl (.inr rfl)) pgs_nil))) (pss_cons (ps_set (i := 8) sc_Lright.nd rfl (.inr rfl) (pe_lc (own := [("k", 10)]) rfl sc_Lright.nd (pi_range1 (by rfl) T.b_range (pa_cons (pe_callB call_len_seq (by rfl) T.b_len (by decide +kernel) (pa_cons (pv 3) pa_nil)) pa_nil)) (blkOk_by (N := n_Lright) (sc := defScope s_Lright) (by decide +kernel)) (fun _ _ _ _ _ => (pg_name (i := 10) sc_Lright.nd rfl (.inl rfl))) (fun _ _ _ _ _ => pts_nil) (fun _ _ _ _ _ => (pe_op op_add (pe_ix (r := rIxL K) ix_list (pv 8) (pv 10) (fun _ _ => rfl)) (pe_op op_mul (pe_op op_sub (pv 5) (pv 9)) (pe_ix (r := rIxT K) ix_tup (pv 6) (pv 10) (fun _ _ => rfl)))))))
        (pss_cons (ps_set (i := 9) sc_Lright.nd rfl (.inr rfl) (pv 5))
        (pss_one (ps_if (pt_not (pt_val (pe_c c_Lkeeps hr (by decide) (by rfl) (pa_cons (pe_fld (pv 0) (by rfl)) (pa_cons (pe_fld (pv 0) (by rfl)) (pa_cons (pv 6) pa_nil)))))) (pss_one (ps_ret pe_bl)) pss_nil)))))
      (pss_one (ps_ret (pe_cmpR (op_eqD hr.units) (pv 8) (pv 3) (nomark _))))))))), ?_⟩
    refine ⟨_, rfl, _, rfl, .ref px, nv, ts, xs, rfl, ⟨px, rfl, hpx⟩, nv0, by omega, by omega, pm, fun H1 p1 us1 s1 hp1 al1 => ?_⟩
    generalize hms : mkI ts xs 12 = ms at al1
    have msb : ∀ m ∈ ms, 1 ≤ m ∧ m ≤ 12 := fun m hm => (mkI_mem.mp (hms ▸ hm)).1
    have msl : ms.length ≤ 12 := by
      rw [← hms]
      exact Nat.le_trans (List.length_filter_le ..) (by rw [List.length_map, List.length_range]; exact Nat.le_refl _)
    have la := al1.len
    rw [List.length_map] at la
    have prok : ∀ z ∈ ms.map (fun m => (lowF m 12, pt ts xs m)), PrOk z := fun z hz => by
      obtain ⟨m, hm, rfl⟩ := List.mem_map.mp hz
      have b := msb m hm
      have e : (10 : Nat) ^ 12 = 1000000000000 := by decide
      have d1 : (lowF m 12).1.natAbs ≤ 12 := div_bd'' (by omega)
      have d2 : (lowF m 12).2.natAbs ≤ 12 := div_bd'' (by omega)
      refine ⟨?_, ?_, pt_bd pm bd, by rw [pt_len _ _ _ (by omega)]; omega⟩
      · unfold Sh12; rw [e]; dsimp only; omega
      · unfold Sh12; rw [e]; dsimp only; omega
    have DP := prT prok (by rw [List.length_map]; omega)
    refine ⟨_, rfl, p1, rfl, ⟨_, sq_lst hp1⟩, fun D nD => ?_⟩
    refine lc_list (K := K) (a := p1) (xs := us1) (fun i H' => ∃ us, H' D = some (.lst us) ∧ Same H1 H' ∧ All2 (PP H') us ((ms.take i).map fun m => (lowF m 12, pt ts xs m))) ⟨[], upd_same, same_upd nD, .nil⟩ (fun i H' _ h => by obtain ⟨_, _, s, _⟩ := h; exact sq_lst (s _ _ hp1)) ?_ ?_
    · rintro i v H2 hv ⟨us, hD, sm, al⟩
      obtain ⟨z, hz, pp, u, rfl, hpp, lvu⟩ := al1.at_ hv
      rw [List.getElem?_map] at hz
      obtain ⟨m, hm, rfl⟩ := Option.map_eq_some_iff.mp hz
      have li : i < ms.length := (List.getElem?_eq_some_iff.mp hm).1
      have lu := al.len
      rw [List.length_map, List.length_take] at lu
      refine ⟨pp, _, rfl, sq_tup (sm _ _ hpp), rfl, _, _, rfl, _, _, rfl, rfl, rfl, ?_⟩
      refine ⟨_, rfl, m, 12, rfl, by decide, by decide, fun H3 q s3 hq => ⟨_, rfl, len2, fun t' nt => ?_⟩⟩
      have s4 := s3.trans (same_upd (o := .tup [.ref q, u]) nt)
      have e4 : upd H3 t' (.tup [.ref q, u]) t' = some (.tup [.ref q, u]) := upd_same
      have hq4 := same_upd (o := .tup [.ref q, u]) nt _ _ hq
      have lv4 := (lvu.same sm).same s4
      have al4 := al.mono fun v y (k : PP H2 v y) => k.tk (.of s4)
      have hD4 := s4 _ _ hD
      generalize upd H3 t' (.tup [.ref q, u]) = H4 at *
      refine ⟨_, hD4, small1000 (by omega), us ++ [.ref t'], upd_same, same_at (sm.trans s4) nD, ?_⟩
      rw [take_one hm, List.map_append]
      exact (al4.mono fun v y k => k.tk (.put hD4)).app ⟨t', .ref q, u, rfl, TK.put hD4 _ _ e4, ⟨q, rfl, TK.put hD4 _ _ hq4⟩, lv4.tk (.put hD4)⟩
    rintro H2 ⟨us, hD, sm, al⟩
    rw [la, List.take_length] at al
    refine ⟨D, _, rfl, .inl ⟨sq_lst hD, fun pd npd => ?_⟩⟩
    have k3 := same_upd (o := .tup us) npd
    have hpd : upd H2 pd (.tup us) pd = some (.tup us) := upd_same
    have al3 := al.mono fun v y (k : PP H2 v y) => k.tk (.of k3)
    have s03 := (s1.trans sm).trans k3
    have s13 := sm.trans k3
    generalize upd H2 pd (.tup us) = H3 at *
    refine ⟨_, rfl, _, rfl, sv, nv, stF xs, ts, rfl, sv0.same s03, nv0.same s03, by unfold stF; rw [List.length_map]; omega, by unfold stF; rw [List.length_map]; omega, fun f hf => by obtain ⟨y, hy, rfl⟩ := List.mem_map.mp hf; exact f12_low (bd y hy), pm, fun ns H4 p4 us4 pwn mem s4 hp4 al4 => ?_⟩
    rw [thP_eq bd pwn mem, hms] at al4
    have s04 := s03.trans s4
    have s14 := s13.trans s4
    refine ⟨p4, _, rfl, .tup (sq_tup hp4) (dpPr al4), DP.s, DP.n, DP.p, DP.fits (by decide), _, rfl, pd, _, rfl, .tup (sq_tup (s4 _ _ hpd)) (dpPr (al3.mono fun v y (k : PP H3 v y) => k.tk (.of s4))), DP.s, DP.n, DP.p, DP.fits (by decide), rfl, _, rfl, ite2 (fun h => absurd h (by simp)) (fun _ => ?_)⟩
    refine ⟨len1, fun l0 nl0 => ⟨_, rfl, px, _, rfl, .inl (sq_lst (same_upd nl0 _ _ (s04 _ _ hpx))), l0, _, _, rfl, rfl, upd_same, by rw [List.length_map]; omega, by rw [List.length_map]; omega, ?_, fun l nl => ⟨len2, fun T' nT => ⟨T', _, rfl, sq_tup upd_same, rfl, _, _, rfl, _, _, rfl, rfl, ?_⟩⟩⟩⟩
    · rw [List.length_singleton, List.length_map, Int.toNat_natCast, sizeLine_eq]; omega
    have z1 := same_upd (o := .lst [.int 0]) nl0
    have z2 := z1.trans (same_upd (o := .lst (List.replicate ((xs.map V.int).length : Int).toNat [.int 0]).flatten) nl)
    have z3 := z2.trans (same_upd (o := .tup [.ref l, .int 0]) nT)
    have hl := same_upd (o := .tup [.ref l, .int 0]) nT _ _ (upd_same (H := upd H4 l0 (.lst [.int 0])) (a := l) (o := .lst (List.replicate ((xs.map V.int).length : Int).toNat [.int 0]).flatten))
    have hl : upd (upd (upd H4 l0 (.lst [.int 0])) l (.lst (List.replicate ((xs.map V.int).length : Int).toNat [.int 0]).flatten)) T' (.tup [.ref l, .int 0]) l = some (tL (mixF ts xs 0)) := by
      rw [hl, mixF_0 (by omega), repf, Int.toNat_natCast, List.length_map]
      unfold tL
      rw [List.map_replicate, W.lx, lt]
    have s05 := s04.trans z3
    have s15 := s14.trans z3
    generalize upd (upd (upd H4 l0 (.lst [.int 0])) l (.lst (List.replicate ((xs.map V.int).length : Int).toNat [.int 0]).flatten)) T' (.tup [.ref l, .int 0]) = H5 at *
    refine ⟨_, rfl, p1, rfl, ⟨_, sq_lst (s15 _ _ hp1)⟩, for_list (K := K) (a := p1) (xs := us1) (fun i σ H' => ∃ y5 y6 lm y10, σ = [some (.ref x), some nv, some sv, some (.ref px), some (.ref p1), y5, y6, some (.ref pd), some (.ref lm), some (.int (lastF ms i)), y10] ∧ Same H H' ∧ Same H1 H' ∧ H' lm = some (tL (mixF ts xs (lastF ms i))))
      ⟨none, none, l, none, rfl, s05, s15, hl⟩ (fun i σ H' _ h => by obtain ⟨_, _, _, _, _, _, s, _⟩ := h; exact sq_lst (s _ _ hp1)) (fun i v σ H6 hv h => ?_) (fun σ H6 h => ?_)⟩
    · obtain ⟨y5, y6, lm, y10, rfl, s06, s16, hlm⟩ := h
      obtain ⟨z, hz, pp, u, rfl, hpp, pu2, eu, hpu2⟩ := al1.at_ hv
      rw [List.getElem?_map] at hz
      obtain ⟨m, hm, rfl⟩ := Option.map_eq_some_iff.mp hz
      dsimp only at eu hpu2 hpp
      subst eu
      have b := msb m (List.mem_of_getElem? hm)
      have hm2 : (mkI ts xs 12)[i]? = some m := by rw [hms]; exact hm
      have lF := lastF_lt (mkI_inc ts xs 12) (fun m h => by have := (mkI_mem.mp h).1; omega) hm2
      rw [hms] at lF
      have lz : (ts.zip xs).length = ts.length := by rw [List.length_zip]; omega
      refine ⟨pp, _, rfl, sq_tup (s16 _ _ hpp), rfl, _, _, rfl, _, _, rfl, rfl, ?_⟩
      refine ⟨_, rfl, px, _, rfl, .inl (sq_lst (s06 _ _ hpx)), _, rfl, by rw [List.length_map]; omega, by rw [List.length_map]; omega, ?_⟩
      rw [List.length_map]
      refine fun D2 nD2 => lc_range (lo := 0) (n := ((xs.length : Nat) : Int).toNat) (fun j H' => H' D2 = some (.lst ((((ts.zip xs).take j).map fun p => p.1 * (m * (p.1 * p.2 / 12) + min m (abF p))).map V.int)) ∧ Same H6 H') ⟨upd_same, same_upd nD2⟩ (fun j H7 hj hI => ?_) (fun H7 hI => ?_)
      · obtain ⟨hD2, s7⟩ := hI
        rw [Int.toNat_natCast] at hj
        rw [show ((0 : Int) + (j : Nat)) = (j : Int) by omega]
        have ht : ts[j]? = some (ts[j]'(by omega)) := List.getElem?_eq_getElem (by omega)
        have hx2 : xs[j]? = some (xs[j]'(by omega)) := List.getElem?_eq_getElem (by omega)
        generalize ts[j]'(by omega) = t at *
        generalize xs[j]'(by omega) = y at *
        have hzp := zip_at ht hx2
        have st := mix_step hm2 (List.mem_of_getElem? hzp)
        rw [hms] at st
        dsimp only at st
        refine ⟨rfl, _, rfl, _, rfl, lm, _, _, .int (t * (lastF ms i * (t * y / 12) + min (lastF ms i) (abF (t, y)))), rfl, rfl, sq_lst (s7 _ _ hlm), atI_nat (by rw [List.getElem?_map]; unfold mixF; rw [List.getElem?_map, hzp]; rfl), _, rfl, _, rfl, _, _, rfl, rfl, _, rfl, _, rfl, pu2, _, _, .int (ptF m (t, y)), rfl, rfl, sq_tup (s7 _ _ (s16 _ _ hpu2)), atI_nat (by rw [List.getElem?_map, pt_at ht hx2]; rfl), _, _, rfl, rfl, .inl ⟨by omega, by omega⟩, _, _, rfl, rfl, _, hD2, small1000 (by rw [List.length_map, List.length_map, List.length_take]; omega), ?_, same_at s7 nD2⟩
        rw [upd_same, take_one hzp, List.map_append, List.map_append, List.map_cons, List.map_nil, List.map_cons, List.map_nil]
        dsimp only
        rw [st]
      · obtain ⟨hD2, s7⟩ := hI
        rw [Int.toNat_natCast, List.take_of_length_le (by omega)] at hD2
        have s07 := s06.trans s7
        obtain ⟨q1, q2, q3⟩ := keeps_pt W lt pm fit b.1 b.2
        refine ⟨_, rfl, ?_⟩
        refine ⟨_, rfl, x, C, dx, _, _, rfl, s07 _ _ hx, cc.cl, cc.nu, lk_u _ _ _, _, rfl, x, C, dx, _, _, rfl, s07 _ _ hx, cc.cl, cc.nw, lk_w _ _ _, _, rfl, .ref pu, .ref pw, .ref pu2, ul, rl, pt ts xs m, rfl, ⟨pu, _, rfl, s07 _ _ hpu, uv.same s07⟩, ⟨pw, _, rfl, s07 _ _ hpw, rsv_of (wv.same s07)⟩, ⟨pu2, rfl, s7 _ _ (s16 _ _ hpu2)⟩, by omega, fun r hr => ⟨(W.rs r hr).1, fun c hc => Nat.le_trans ((W.rs r hr).2.1 c hc) (by decide)⟩, q1, q2, q3, fun H8 s8 => ⟨true, rfl, iteF ⟨some (.int m), some (.ref pu2), D2, y10, ?_, s07.trans s8, (s16.trans s7).trans s8, ?_⟩⟩⟩
        · rw [lastF_succ hm]; rfl
        · rw [lastF_succ hm]
          exact s8 _ _ hD2
    · obtain ⟨y5, y6, lm, y10, rfl, s06, s16, hlm⟩ := h
      rw [la, ← hms, last_12, mixF_12 pm (by omega)] at hlm
      refine ⟨_, rfl, _, rfl, _, _, .lst (sq_lst hlm) (dp_ints xs), .lst (sq_lst (s06 _ _ hpx)) (dp_ints xs), shp_ints xs, shp_ints xs, ?_⟩
      rw [eqvL, decide_eq_true rfl]
      exact fin _ s06
end
end M57

namespace M57
open PySem PySem.Spec PyProof.Rows L2 SX Own Gd
open C8 (Cal pe_c pe_gc pe_mk Mak pss_cut)
theorem dot_lin {α : Type} {F0 F1 G : α → Int} {c : Int} : ∀ (g : List Int) (z : List α), (∀ p ∈ z, F1 p = F0 p + c * G p) → dot g (z.map F1) = dot g (z.map F0) + c * dot g (z.map G)
  | [], z, _ => by simp [dot]
  | a :: g, [], _ => by simp [dot]
  | a :: g, p :: z, h => by
    have ih := dot_lin g z fun q hq => h q (List.mem_cons_of_mem _ hq)
    have hp := h p (List.mem_cons_self ..)
    simp only [List.map_cons, dot, ih, hp, Int.mul_add]
    rw [show a * (c * G p) = c * (a * G p) by ac_rfl]
    omega
theorem dot_zero : ∀ (g : List Int) (n : Nat), dot g (List.replicate n 0) = 0
  | [], n => by simp [dot]
  | a :: g, 0 => by simp [dot]
  | a :: g, n + 1 => by simp [List.replicate_succ, dot, dot_zero g n]
theorem dot_mix {g ts xs : List Int} {i : Nat} {m : Int} (hm : (mkI ts xs 12)[i]? = some m) : dot g (mixF ts xs m) = dot g (mixF ts xs (lastF (mkI ts xs 12) i)) + (m - lastF (mkI ts xs 12) i) * dot g (pt ts xs m) :=
  dot_lin g (ts.zip xs) fun p hp => (mix_step hm hp).symm
theorem best_le {g ts xs : List Int} (pm : Pm ts) (lx : xs.length = ts.length) {B : Int} (h : ∀ m ∈ mkI ts xs 12, B ≤ dot g (pt ts xs m)) : 12 * B ≤ dot g xs := by
  have step : ∀ i, i ≤ (mkI ts xs 12).length → lastF (mkI ts xs 12) i * B ≤ dot g (mixF ts xs (lastF (mkI ts xs 12) i)) := by
    intro i
    induction i with
    | zero =>
      intro _
      show 0 * B ≤ dot g (mixF ts xs 0)
      rw [mixF_0 lx, dot_zero]; omega
    | succ i ih =>
      intro hi
      have hm : (mkI ts xs 12)[i]? = some ((mkI ts xs 12)[i]'(by omega)) := List.getElem?_eq_getElem (by omega)
      generalize (mkI ts xs 12)[i]'(by omega) = m at hm
      have ih := ih (by omega)
      have lt := lastF_lt (mkI_inc ts xs 12) (fun m h => by have := (mkI_mem.mp h).1; omega) hm
      rw [lastF_succ hm, dot_mix hm]
      have h1 := Int.mul_le_mul_of_nonneg_left (h m (List.mem_of_getElem? hm)) (show 0 ≤ m - lastF (mkI ts xs 12) i by omega)
      rw [Int.sub_mul] at h1 ⊢
      rw [Int.sub_mul] at h1
      omega
  have := step _ (Nat.le_refl _)
  rw [last_12, mixF_12 pm lx] at this
  exact this
theorem fold_min {g : List Int} : ∀ {ps : List (List Int)} {q0 : List Int}, ∃ q, ps.foldl (stepB g) (some q0) = some q ∧ (q = q0 ∨ q ∈ ps) ∧ dot g q ≤ dot g q0 ∧ ∀ p ∈ ps, dot g q ≤ dot g p
  | [], q0 => ⟨q0, rfl, .inl rfl, Int.le_refl _, fun p hp => by cases hp⟩
  | p :: ps, q0 => by
    rw [List.foldl_cons]
    unfold stepB
    dsimp only
    by_cases c : dot g p < dot g q0
    · rw [if_pos c]
      obtain ⟨q, e, m, h1, h2⟩ := fold_min (g := g) (ps := ps) (q0 := p)
      refine ⟨q, e, ?_, by omega, fun r hr => ?_⟩
      · rcases m with rfl | m
        · exact .inr (List.mem_cons_self ..)
        · exact .inr (List.mem_cons_of_mem _ m)
      · rcases List.mem_cons.mp hr with rfl | hr
        · exact h1
        · exact h2 r hr
    · rw [if_neg c]
      obtain ⟨q, e, m, h1, h2⟩ := fold_min (g := g) (ps := ps) (q0 := q0)
      refine ⟨q, e, ?_, h1, fun r hr => ?_⟩
      · rcases m with rfl | m
        · exact .inl rfl
        · exact .inr (List.mem_cons_of_mem _ m)
      · rcases List.mem_cons.mp hr with rfl | hr
        · omega
        · exact h2 r hr
theorem bestF_min {g : List Int} {ps : List (List Int)} (h : ps ≠ []) : ∃ q, bestF g ps = some q ∧ q ∈ ps ∧ ∀ p ∈ ps, dot g q ≤ dot g p := by
  cases ps with
  | nil => exact absurd rfl h
  | cons p ps =>
    obtain ⟨q, e, m, h1, h2⟩ := fold_min (g := g) (ps := ps) (q0 := p)
    refine ⟨q, e, ?_, fun r hr => ?_⟩
    · rcases m with rfl | m
      · exact List.mem_cons_self ..
      · exact List.mem_cons_of_mem _ m
    · rcases List.mem_cons.mp hr with rfl | hr
      · exact h1
      · exact h2 r hr
theorem mk_ne (ts xs : List Int) : mkI ts xs 12 ≠ [] := fun e => by
  have : (12 : Int) ∈ mkI ts xs 12 := mkI_mem.mpr ⟨by decide, .inr rfl⟩
  rw [e] at this
  cases this
/-- the best point of all thresholds -/
def duF (g ts xs : List Int) : Option (List Int) := bestF g ((mkI ts xs 12).map fun m => pt ts xs m)
theorem duF_some {g ts xs : List Int} (pm : Pm ts) (lx : xs.length = ts.length) : ∃ m, (1 ≤ m ∧ m ≤ 12) ∧ duF g ts xs = some (pt ts xs m) ∧ 12 * dot g (pt ts xs m) ≤ dot g xs := by
  obtain ⟨q, e, mem, mn⟩ := bestF_min (g := g) (ps := (mkI ts xs 12).map fun m => pt ts xs m) (by simpa using mk_ne ts xs)
  obtain ⟨m, hm, rfl⟩ := List.mem_map.mp mem
  exact ⟨m, (mkI_mem.mp hm).1, e, best_le pm lx fun k hk => mn _ (List.mem_map.mpr ⟨k, hk, rfl⟩)⟩
section
variable {P : Program} {w : World} {K : PySem.W.Frag} {mg : Str → Option Value} {base : Heap} {aW aT : Addr} {es : Array DictEntry} {nn : Nat}
abbrev s_Lbest : Stmt := topS 58
abbrev n_Lbest : List Str := ["task", "turns", "start", "values", "due", "mark", "point"]
theorem sc_Lbest : FnScope n_Lbest ["task", "turns", "start", "values"] (defScope s_Lbest) := ⟨rfl, rfl, rfl, by decide +kernel, rfl, by decide +kernel, by decide +kernel⟩
def spLBest (C : Addr) : Sp := fun vs H Q _ => ∃ (tv nv sv : V) (px : Addr) (ul : List Unk) (rl : List Row) (goal ts xs : List Int), vs = [tv, nv, sv, .ref px] ∧ TaskV C H tv ul (rl.map .sum) goal ∧ LV H nv ts ∧ SV H sv (stF xs) ∧ H px = some (tL xs) ∧ Wnt ul rl xs ∧ goal.length = ul.length ∧ Sm 1000 goal ∧ turnsF (rl.map .sum) ul.length = some ts ∧ ∀ H', Same H H' → Q (.bl true) H'
theorem ok_Lbest {f C : Addr} {fd : FuncData} (F : Fun K "_law_best" "_law_best" s_Lbest f fd) (T : Txt K mg w aW aT es nn) (cc : CC K C) (c_Lturned : Cal P w K mg base 1 "_law_turned" spTurned []) (c_Lsum : Cal P w K mg base 1 "_law_sum" spLSum []) (k_best_threshold_start_task : CalK P w K mg base 4 "best_threshold" ["start", "task"] sw (spBest C)) : FnG P w K mg base CX0 5 f fd ["task", "turns", "start", "values"] (spLBest C) := by
  refine fun_okG F sc_Lbest (fun vs H Q E h => ?_) (fun cdv A outer s H vs Q E hgd hr h => ?_)
  · obtain ⟨tv, nv, sv, px, ul, rl, goal, ts, xs, rfl, _⟩ := h
    rfl
  · obtain ⟨tv, nv, sv, px, ul, rl, goal, ts, xs, rfl, tk0, nv0, sv0, hpx, W, lg, gs, eT, fin⟩ := h
    obtain ⟨x, dx, pu, pw, pg, us, ws, rfl, hx, hpu, uv, hpw, wv, hpg⟩ := id tk0
    have rok : ∀ r, Wish.sum r ∈ rl.map Wish.sum → r.am.length = ul.length ∧ Sm 1000 r.am := fun r hr => by
      obtain ⟨r', h1, h2⟩ := List.mem_map.mp hr
      cases h2
      exact ⟨(W.rs r h1).1, fun c hc => Nat.le_trans ((W.rs r h1).2.1 c hc) (by decide)⟩
    have lt := turnsF_len eT
    have pm := turnsF_pm rok eT
    have lx := W.lx
    have n6 := W.n6
    have bd := W.bd
    refine ⟨_, (pss_cons (ps_set (i := 4) sc_Lbest.nd rfl (.inl rfl) pe_non)
      (pss_cons (ps_for PassesOwn.never rfl (pi_list (pe_c c_Lturned hr (by decide) (by rfl) (pa_cons (pv 3) (pa_cons (pv 1) pa_nil)))) (pg_tup rfl (pgs_cons (pg_name (i := 5) sc_Lbest.nd rfl (.inl rfl)) (pgs_cons (pg_name (i := 6) sc_Lbest.nd rfl (.inl rfl)) pgs_nil))) (pss_one (ps_if (PW.pt (pw_or (pt_cmpR op_isN (pv 4) pe_non (nomark _)) (pw_or1 (pt_cmpR op_lt (pe_c c_Lsum hr (by decide) (by rfl) (pa_cons (pe_fld (pv 0) (by rfl)) (pa_cons (pv 6) pa_nil))) (pe_c c_Lsum hr (by decide) (by rfl) (pa_cons (pe_fld (pv 0) (by rfl)) (pa_cons (pv 4) pa_nil))) (nomark _))))) (pss_one (ps_set (i := 4) sc_Lbest.nd rfl (.inl rfl) (pv 6))) pss_nil)))
      (pss_cons (ps_if (pt_cmpR op_ne (pe_callB (call_show hgd hr.units) (by rfl) T.b_repr (by decide +kernel) (pa_cons (pe_kw k_best_threshold_start_task hr (by decide) (by rfl) (pk_cons (pv 2) (pk_cons (pv 0) pk_nil))) pa_nil)) (pe_callB (call_show hgd hr.units) (by rfl) T.b_repr (by decide +kernel) (pa_cons (pv 4) pa_nil)) (nomark _)) (pss_one (ps_ret pe_bl)) pss_nil)
      (pss_one (ps_ret (pe_cmpR op_le (pe_op op_mul pe_int (pe_c c_Lsum hr (by decide) (by rfl) (pa_cons (pe_fld (pv 0) (by rfl)) (pa_cons (pv 4) pa_nil)))) (pe_c c_Lsum hr (by decide) (by rfl) (pa_cons (pe_fld (pv 0) (by rfl)) (pa_cons (pv 3) pa_nil))) (nomark _))))))), ?_⟩
    refine ⟨_, rfl, _, rfl, .ref px, nv, ts, xs, rfl, ⟨px, rfl, hpx⟩, nv0, by omega, by omega, pm, fun H1 p1 us1 s1 hp1 al1 => ?_⟩
    have la := al1.len
    rw [List.length_map] at la
    refine ⟨p1, rfl, ⟨_, sq_lst hp1⟩, for_list (K := K) (a := p1) (xs := us1) (fun i σ H' => ∃ vb y5 y6, σ = [some (.ref x), some nv, some sv, some (.ref px), some vb, y5, y6] ∧ Same H1 H' ∧ OI H' vb (bestF goal (((mkI ts xs 12).map fun m => pt ts xs m).take i)))
      ⟨.non, none, none, rfl, Same.refl _, rfl⟩ (fun i σ H' _ h => by obtain ⟨_, _, _, _, s, _⟩ := h; exact sq_lst (s _ _ hp1)) (fun i v σ H3 hv h => ?_) (fun σ H3 h => ?_)⟩
    · obtain ⟨vb, y5, y6, rfl, s3, oi⟩ := h
      obtain ⟨z, hz, pp, u, rfl, hpp, lvu⟩ := al1.at_ hv
      rw [List.getElem?_map] at hz
      obtain ⟨m, hm, rfl⟩ := Option.map_eq_some_iff.mp hz
      have hn2 : ((mkI ts xs 12).map fun m => pt ts xs m)[i]? = some (pt ts xs m) := by rw [List.getElem?_map, hm]; rfl
      have tk := bestF_take (goal := goal) hn2
      have ptl : ∀ m, (pt ts xs m).length = ul.length := fun m => (pt_len ts xs m (by omega)).trans lt
      have bl : ∀ q, bestF goal (((mkI ts xs 12).map fun m => pt ts xs m).take i) = some q → q.length = ul.length := fun q e => bestF_mem (fun p hp => by
        obtain ⟨n, _, rfl⟩ := List.mem_map.mp (List.mem_of_mem_take hp)
        exact ptl n) (fun q (e : none = some q) => by cases e) q e
      have lv3 : LV H3 u (pt ts xs m) := lvu.same s3
      have s13 := s1.trans s3
      refine ⟨pp, _, rfl, sq_tup (s3 _ _ hpp), rfl, _, _, rfl, _, _, rfl, rfl, ?_⟩
      generalize bestF goal (((mkI ts xs 12).map fun m => pt ts xs m).take i) = b at *
      cases b with
      | none =>
        obtain rfl : vb = .non := oi
        refine ⟨_, rfl, rfl, _, rfl, iteT ⟨_, rfl, _, _, _, rfl, s3, ?_⟩⟩
        rw [tk]
        exact lv3
      | some q =>
        obtain ⟨pb, rfl, hpb⟩ := id oi
        have ql := bl q rfl
        have pl := ptl m
        obtain ⟨pu2, rfl, hpu2⟩ := lv3
        refine ⟨_, rfl, rfl, _, rfl, iteF ?_⟩
        refine ⟨_, rfl, x, C, dx, _, _, rfl, s13 _ _ hx, cc.cl, cc.ng, lk_g _ _ _, _, rfl, .ref pg, .ref pu2, goal, _, rfl, ⟨pg, rfl, .inr (s13 _ _ hpg)⟩, ⟨pu2, rfl, .inr hpu2⟩, by omega, by omega, gs, fun H4 s4 => ?_⟩
        refine ⟨_, rfl, x, C, dx, _, _, rfl, s4 _ _ (s13 _ _ hx), cc.cl, cc.ng, lk_g _ _ _, _, rfl, .ref pg, .ref pb, goal, q, rfl, ⟨pg, rfl, .inr (s4 _ _ (s13 _ _ hpg))⟩, ⟨pb, rfl, .inr (s4 _ _ hpb)⟩, by omega, by omega, gs, fun H5 s5 => ⟨_, _, rfl, rfl, _, rfl, ite2 (fun c => ?_) (fun c => ?_)⟩⟩
        · have c : dot goal (pt ts xs m) < dot goal q := of_decide_eq_true c
          refine ⟨_, rfl, _, _, _, rfl, (s3.trans s4).trans s5, ?_⟩
          rw [tk, stepB, if_pos c]
          exact ⟨pu2, rfl, s5 _ _ (s4 _ _ hpu2)⟩
        · have c : ¬ dot goal (pt ts xs m) < dot goal q := fun z => c (decide_eq_true z)
          refine ⟨_, _, _, rfl, (s3.trans s4).trans s5, ?_⟩
          rw [tk, stepB, if_neg c]
          exact ⟨pb, rfl, s5 _ _ (s4 _ _ hpb)⟩
    · obtain ⟨vb, y5, y6, rfl, s3, oi⟩ := h
      rw [List.take_of_length_le (by rw [List.length_map]; omega)] at oi
      obtain ⟨m, mb, ed, le⟩ := duF_some (g := goal) pm (by omega : xs.length = ts.length)
      rw [show bestF goal ((mkI ts xs 12).map fun m => pt ts xs m) = some (pt ts xs m) from ed] at oi
      obtain ⟨pd, rfl, hpd⟩ := oi
      have s13 := s1.trans s3
      have ptl : (pt ts xs m).length = ul.length := (pt_len ts xs m (by omega)).trans lt
      have DI := intsT (pt_bd (m := m) pm bd) (by omega)
      refine ⟨_, rfl, _, rfl, .ref x, sv, ul, rl.map .sum, goal, stF xs, rfl, ⟨x, dx, pu, pw, pg, us, ws, rfl, s13 _ _ hx, s13 _ _ hpu, uv.same s13, s13 _ _ hpw, wv.same s13, s13 _ _ hpg⟩, sv0.same s13, by rw [List.length_map]; have := W.rl7; omega, by omega, rok, by unfold stF; rw [List.length_map]; omega, lg, fun f hf => by obtain ⟨y, hy, rfl⟩ := List.mem_map.mp hf; exact f12_low (bd y hy), gs, fun H4 s4 e => (by rw [eT] at e; cases e), fun H4 ts2 ns v s4 e pwn mem oi2 => ?_⟩
      obtain rfl : ts = ts2 := Option.some.inj (eT.symm.trans e)
      have eP : (ns.map fun n => (thP (stF xs) ts n).2) = (mkI ts xs 12).map fun m => pt ts xs m := by
        have h1 := congrArg (List.map Prod.snd) (thP_eq bd pwn mem)
        rw [List.map_map, List.map_map] at h1
        exact h1
      rw [eP, show bestF goal ((mkI ts xs 12).map fun m => pt ts xs m) = some (pt ts xs m) from ed] at oi2
      obtain ⟨pv, rfl, hpv⟩ := oi2
      have s14 := s13.trans s4
      refine ⟨pv, _, rfl, dpI hpv, DI.s, DI.n, DI.p, DI.fits (by decide), _, rfl, pd, _, rfl, dpI (s4 _ _ hpd), DI.s, DI.n, DI.p, DI.fits (by decide), rfl, _, rfl, ite2 (fun h => absurd h (by simp)) (fun _ => ?_)⟩
      refine ⟨_, rfl, x, C, dx, _, _, rfl, s14 _ _ hx, cc.cl, cc.ng, lk_g _ _ _, _, rfl, .ref pg, .ref pd, goal, _, rfl, ⟨pg, rfl, .inr (s14 _ _ hpg)⟩, ⟨pd, rfl, .inr (s4 _ _ hpd)⟩, by omega, by omega, gs, fun H5 s5 => ⟨_, _, rfl, rfl, .inl ⟨by decide, by decide⟩, ?_⟩⟩
      refine ⟨_, rfl, x, C, dx, _, _, rfl, s5 _ _ (s14 _ _ hx), cc.cl, cc.ng, lk_g _ _ _, _, rfl, .ref pg, .ref px, goal, xs, rfl, ⟨pg, rfl, .inr (s5 _ _ (s14 _ _ hpg))⟩, ⟨px, rfl, .inl (s5 _ _ (s14 _ _ hpx))⟩, by omega, by omega, gs, fun H6 s6 => ⟨_, _, rfl, rfl, ?_⟩⟩
      have := fin _ ((s14.trans s5).trans s6)
      rw [← decide_eq_true le] at this
      exact this
end
end M57

namespace M57
open PySem PySem.Spec PyProof.Rows L2 SX Own Gd
open C8 (Cal pe_c pe_gc pe_mk Mak pss_cut)
theorem Kpt_tv {C : Addr} {H H' : Hp} {h q : Addr} {v : V} {ul : List Unk} {wl : List Wish} {goal : List Int} (t : TaskV C H v ul wl goal) (k : Kpt h q H H') (a : HpAt H h q) : TaskV C H' v ul wl goal := by
  obtain ⟨x, dx, pu, pw, pg, us, ws, e, hx, hpu, uv, hpw, wv, hpg⟩ := t
  have tk := TK.kp k a
  obtain ⟨cs, st, a⟩ := a
  exact ⟨x, dx, pu, pw, pg, us, ws, e, k _ _ hx (fun z => by rw [z, a.hh] at hx; cases hx) (fun z => by rw [z, a.hq] at hx; cases hx), tk _ _ hpu, uv.tk tk, tk _ _ hpw, wv.tk tk, tk _ _ hpg⟩
theorem same_tv {C : Addr} {H H' : Hp} {v : V} {ul : List Unk} {wl : List Wish} {goal : List Int} (t : TaskV C H v ul wl goal) (k : Same H H') : TaskV C H' v ul wl goal := by
  obtain ⟨x, dx, pu, pw, pg, us, ws, e, hx, hpu, uv, hpw, wv, hpg⟩ := t
  exact ⟨x, dx, pu, pw, pg, us, ws, e, k _ _ hx, k _ _ hpu, uv.same k, k _ _ hpw, wv.same k, k _ _ hpg⟩
/-! ### goals that are sums of tight rows -/
theorem dot_comm : ∀ a b : List Int, dot a b = dot b a
  | [], b => by cases b <;> rfl
  | _ :: _, [] => rfl
  | x :: a, y :: b => by
    simp only [dot, dot_comm a b, Int.mul_comm x y]
def addL (G : List Int) (t : Int) (a : List Int) : List Int := (G.zip a).map fun p => p.1 + t * p.2
theorem zip_fst : ∀ {a b : List Int}, a.length = b.length → (a.zip b).map (fun p => p.1) = a
  | [], [], _ => rfl
  | x :: a, y :: b, h => by
    rw [List.zip_cons_cons, List.map_cons, zip_fst (by simpa using h)]
  | [], _ :: _, h => by simp at h
  | _ :: _, [], h => by simp at h
theorem zip_snd : ∀ {a b : List Int}, a.length = b.length → (a.zip b).map (fun p => p.2) = b
  | [], [], _ => rfl
  | x :: a, y :: b, h => by
    rw [List.zip_cons_cons, List.map_cons, zip_snd (by simpa using h)]
  | [], _ :: _, h => by simp at h
  | _ :: _, [], h => by simp at h
theorem dot_add {G a z : List Int} {t : Int} (h : G.length = a.length) : dot (addL G t a) z = dot G z + t * dot a z := by
  rw [dot_comm (addL G t a), dot_comm G, dot_comm a]
  have := dot_lin (F0 := fun p : Int × Int => p.1) (F1 := fun p => p.1 + t * p.2) (G := fun p => p.2) (c := t) z (G.zip a) fun p _ => rfl
  rw [zip_fst h, zip_snd h] at this
  exact this
def KeepR (rl : List Row) (z : List Int) : Prop := ∀ r ∈ rl, r.bd ≤ dot r.am z ∧ (r.eq = true → dot r.am z = r.bd)
structure Shp (rl : List Row) (xs : List Int) (i : Nat) (G : List Int) : Prop where
  len : G.length = xs.length
  sm : Sm (9 * i) G
  t : ∃ T : Int, dot G xs = 12 * T ∧ ∀ z, KeepR rl z → T ≤ dot G z
theorem Shp.add {rl : List Row} {xs G : List Int} {i : Nat} (h : Shp rl xs i G) {r : Row} (hr : r ∈ rl) (lr : r.am.length = xs.length) (sr : Sm 3 r.am) (ti : dot r.am xs = 12 * r.bd) {t : Int} (t3 : t.natAbs ≤ 3) (tp : r.eq = false → 0 ≤ t) : Shp rl xs (i + 1) (addL G t r.am) := by
  obtain ⟨T, e, mn⟩ := h.t
  have hl : G.length = r.am.length := h.len.trans lr.symm
  refine ⟨?_, fun c hc => ?_, T + t * r.bd, ?_, fun z hz => ?_⟩
  · unfold addL
    rw [List.length_map, List.length_zip, hl, Nat.min_self, lr]
  · obtain ⟨p, hp, rfl⟩ := List.mem_map.mp hc
    have h1 := h.sm p.1 (List.of_mem_zip hp).1
    have h2 := sr p.2 (List.of_mem_zip hp).2
    have h3 : (t * p.2).natAbs ≤ 3 * 3 := by rw [Int.natAbs_mul]; exact Nat.mul_le_mul t3 h2
    omega
  · rw [dot_add hl, e, ti, Int.mul_add, show t * (12 * r.bd) = 12 * (t * r.bd) by ac_rfl]
  · rw [dot_add hl]
    have h1 := mn z hz
    obtain ⟨h2, h3⟩ := hz r hr
    cases he : r.eq with
    | true => rw [h3 he]; omega
    | false =>
      have := Int.mul_le_mul_of_nonneg_left h2 (tp he)
      omega
theorem Shp.keep {rl : List Row} {xs G : List Int} {i : Nat} (h : Shp rl xs i G) : Shp rl xs (i + 1) G := ⟨h.len, fun c hc => Nat.le_trans (h.sm c hc) (by omega), h.t⟩
theorem Shp.zero {rl : List Row} {xs : List Int} : Shp rl xs 0 (List.replicate xs.length 0) := by
  refine ⟨List.length_replicate, sm_rep, 0, ?_, fun z _ => ?_⟩
  · rw [dot_comm, dot_zero]; rfl
  · rw [dot_comm, dot_zero]; exact Int.le_refl _
section
variable {P : Program} {w : World} {K : PySem.W.Frag} {mg : Str → Option Value} {base : Heap} {aW aT : Addr} {es : Array DictEntry} {nn : Nat}
abbrev s_Lsharp : Stmt := topS 60
abbrev n_Lsharp : List Str := ["deal", "task", "start", "values", "goal", "word", "amounts", "equal", "bound", "times", "sharp", "k"]
theorem sc_Lsharp : FnScope n_Lsharp ["deal", "task", "start", "values"] (defScope s_Lsharp) := ⟨rfl, rfl, rfl, by decide +kernel, rfl, by decide +kernel, by decide +kernel⟩
def spSharp (C : Addr) : Sp := fun vs H Q _ => ∃ (h q : Addr) (tv sv : V) (px : Addr) (ul : List Unk) (rl : List Row) (goal ts xs : List Int), vs = [.ref h, tv, sv, .ref px] ∧ HpAt H h q ∧ TaskV C H tv ul (rl.map .sum) goal ∧ SV H sv (stF xs) ∧ H px = some (tL xs) ∧ px ≠ h ∧ px ≠ q ∧ Wnt ul rl xs ∧ UnkOk ul ∧ (∀ r ∈ rl, RowOk ul.length r) ∧ turnsF (rl.map .sum) ul.length = some ts ∧ ∀ H', HpAt H' h q → Kpt h q H H' → Q (.bl true) H'
theorem ok_Lsharp {f C : Addr} {fd : FuncData} (F : Fun K "_law_sharp" "_law_sharp" s_Lsharp f fd) (T : Txt K mg w aW aT es nn) (cc : CC K C) (m_Task : Mak P w K mg base 8 "Task" C (spTask C) []) (c_Lany : Cal P w K mg base 1 "_law_any" spDraw []) (c_Lsum : Cal P w K mg base 1 "_law_sum" spLSum []) (c_turns_of : Cal P w K mg base 2 "turns_of" (spTurns C) []) (c_best_threshold : Cal P w K mg base 4 "best_threshold" (spBest C) []) (c_Lbest : CalG P w K mg base 5 "_law_best" (spLBest C)) : FnG P w K mg base CX0 10 f fd ["deal", "task", "start", "values"] (spSharp C) := by
  refine fun_okG F sc_Lsharp (fun vs H Q E h => ?_) (fun cdv A outer s H vs Q E hgd hr h => ?_)
  · obtain ⟨h, q, tv, sv, px, ul, rl, goal, ts, xs, rfl, _⟩ := h
    rfl
  · obtain ⟨h, q, tv, sv, px, ul, rl, goal, ts, xs, rfl, a0, tk0, sv0, hpx, x1, x2, W, uok, rwo, eT, fin⟩ := h
    obtain ⟨x, dx, pu, pw, pg, us, ws, rfl, hx, hpu, uv, hpw, wv, hpg⟩ := id tk0
    have lx := W.lx
    have n6 := W.n6
    have rv := rsv_of wv
    have lr := rv.len
    refine ⟨_, (pss_cons (ps_set (i := 4) sc_Lsharp.nd rfl (.inr rfl) (pe_op op_rep (pe_lst (pa_cons pe_int pa_nil)) (pe_callB call_len_seq (by rfl) T.b_len (by decide +kernel) (pa_cons (pv 3) pa_nil))))
      (pss_cons (ps_for PassesOwn.never rfl (pi_tup (pe_fld (pv 1) (by rfl))) (pg_tup rfl (pgs_cons (pg_name (i := 5) sc_Lsharp.nd rfl (.inl rfl)) (pgs_cons (pg_name (i := 6) sc_Lsharp.nd rfl (.inr rfl)) (pgs_cons (pg_name (i := 7) sc_Lsharp.nd rfl (.inl rfl)) (pgs_cons (pg_name (i := 8) sc_Lsharp.nd rfl (.inl rfl)) pgs_nil))))) (pss_one (ps_if (pt_cmpR op_eq (pe_c c_Lsum hr (by decide) (by rfl) (pa_cons (pv 6) (pa_cons (pv 3) pa_nil))) (pe_op op_mul pe_int (pv 8)) (nomark _)) (pss_cut (ps_set (i := 9) sc_Lsharp.nd rfl (.inr rfl) (pe_op op_sub (pe_c c_Lany hr (by decide) (by rfl) (pa_cons (pv 0) (pa_cons pe_int pa_nil))) (pe_ifExp (pt_truth (pv 7) (by intro _; rfl)) pe_int pe_int)))
          (pss_one (ps_set (i := 4) sc_Lsharp.nd rfl (.inr rfl) (pe_lc (own := [("k", 11)]) rfl sc_Lsharp.nd (pi_range1 (by rfl) T.b_range (pa_cons (pe_callB call_len_seq (by rfl) T.b_len (by decide +kernel) (pa_cons (pv 3) pa_nil)) pa_nil)) (blkOk_by (N := n_Lsharp) (sc := defScope s_Lsharp) (by decide +kernel)) (fun _ _ _ _ _ => (pg_name (i := 11) sc_Lsharp.nd rfl (.inl rfl))) (fun _ _ _ _ _ => pts_nil) (fun _ _ _ _ _ => (pe_op op_add (pe_ix (r := rIxL K) ix_list (pv 4) (pv 11) (fun _ _ => rfl)) (pe_op op_mul (pv 9) (pe_ix (r := rIxT K) ix_tup (pv 6) (pv 11) (fun _ _ => rfl))))))))) pss_nil)))
      (pss_cons (ps_set (i := 10) sc_Lsharp.nd rfl (.inl rfl) (pe_mk m_Task hr (by decide) (by rfl) (pa_cons (pe_fld (pv 1) (by rfl)) (pa_cons (pe_fld (pv 1) (by rfl)) (pa_cons (pe_callTy call_tuple_of (by rfl) T.b_tuple (by decide +kernel) (pa_cons (pv 4) pa_nil)) pa_nil)))))
      (pss_cons (ps_if (pt_not (pt_val (pe_cG hgd c_Lbest hr (by decide) (by rfl) (pa_cons (pv 10) (pa_cons (pe_c c_turns_of hr (by decide) (by rfl) (pa_cons (pv 10) pa_nil)) (pa_cons (pv 2) (pa_cons (pv 3) pa_nil))))))) (pss_one (ps_ret pe_bl)) pss_nil)
      (pss_one (ps_ret (pe_cmpR op_eq (pe_op op_mul pe_int (pe_c c_Lsum hr (by decide) (by rfl) (pa_cons (pv 4) (pa_cons (pe_c c_best_threshold hr (by decide) (by rfl) (pa_cons (pv 10) (pa_cons (pv 2) pa_nil))) pa_nil)))) (pe_c c_Lsum hr (by decide) (by rfl) (pa_cons (pv 4) (pa_cons (pv 3) pa_nil))) (nomark _)))))))), ?_⟩
    refine ⟨len1, fun l0 nl0 => ⟨_, rfl, px, _, rfl, .inl (sq_lst (same_upd nl0 _ _ hpx)), l0, _, _, rfl, rfl, upd_same, by rw [List.length_map]; omega, by rw [List.length_map]; omega, ?_, fun l nl => ?_⟩⟩
    · rw [List.length_singleton, List.length_map, Int.toNat_natCast, sizeLine_eq]; omega
    rw [repf, Int.toNat_natCast, List.length_map]
    have k1 := (same_upd (o := .lst [.int 0]) nl0).trans (same_upd (o := .lst (List.replicate xs.length (.int 0))) nl)
    have el : upd (upd H l0 (.lst [.int 0])) l (.lst (List.replicate xs.length (.int 0))) l = some (tL (List.replicate xs.length 0)) := by rw [upd_same]; unfold tL; rw [List.map_replicate]
    have a1 := a0.same k1
    have f1 := a0.fresh (show H l = none from (same_upd (o := .lst [.int 0]) nl0).free nl)
    have hx1 := k1 _ _ hx
    have hpw1 := k1 _ _ hpw
    generalize upd (upd H l0 (.lst [.int 0])) l (.lst (List.replicate xs.length (.int 0))) = H1 at *
    refine ⟨_, rfl, x, C, dx, _, _, rfl, hx1, cc.cl, cc.nw, lk_w _ _ _, pw, rfl, ⟨_, sq_tup hpw1⟩, for_tup (K := K) (a := pw) (xs := ws) (fun i σ H' => ∃ lg G y5 y6 y7 y8 y9, σ = [some (.ref h), some (.ref x), some sv, some (.ref px), some (.ref lg), y5, y6, y7, y8, y9, none, none] ∧ HpAt H' h q ∧ Kpt h q H H' ∧ H' lg = some (tL G) ∧ lg ≠ h ∧ lg ≠ q ∧ Shp rl xs i G)
      ⟨l, _, none, none, none, none, none, rfl, a1, .of_same k1, el, f1.1, f1.2, .zero⟩ (fun i σ H' _ hh => by obtain ⟨_, _, _, _, _, _, _, _, _, kp, _⟩ := hh; exact sq_tup (TK.kp kp a0 _ _ hpw)) (fun i v σ H2 hv hh => ?_) (fun σ H2 hh => ?_)⟩
    · obtain ⟨lg, G, y5, y6, y7, y8, y9, rfl, a2, kp2, hG, g1, g2, sh⟩ := hh
      obtain ⟨r, hr', p, qa, rfl, hp, hqa⟩ := rv.at_ hv
      have mr := List.mem_of_getElem? hr'
      obtain ⟨r1, r2, r3, r4⟩ := W.rs r mr
      have tk := TK.kp kp2 a0
      have li : i < rl.length := (List.getElem?_eq_some_iff.mp hr').1
      refine ⟨p, _, rfl, sq_tup (tk _ _ hp), rfl, _, _, rfl, _, _, rfl, _, _, rfl, _, _, rfl, rfl, ?_⟩
      refine ⟨_, rfl, _, rfl, .ref qa, .ref px, r.am, xs, rfl, ⟨qa, rfl, .inr (tk _ _ hqa)⟩, ⟨px, rfl, .inl (kp2 _ _ hpx x1 x2)⟩, by omega, by omega, fun c hc => Nat.le_trans (r2 c hc) (by decide), fun H3 s3 => ?_⟩
      have a3 := a2.same s3
      have kp3 := kp2.trans (.of_same (h := h) (q := q) s3)
      have hG3 := s3 _ _ hG
      refine ⟨_, rfl, _, _, rfl, rfl, .inl ⟨by decide, by decide⟩, rfl, _, rfl, ite2 (fun c => ?_) (fun c => ⟨lg, G, _, _, _, _, _, rfl, a3, kp3, hG3, g1, g2, sh.keep⟩)⟩
      have c : dot r.am xs = 12 * r.bd := V.int.inj (of_decide_eq_true c)
      refine ⟨fun σ H' => ∃ t : Int, σ = [some (.ref h), some (.ref x), some sv, some (.ref px), some (.ref lg), some (.str "sum"), some (.ref qa), some (.bl r.eq), some (.int r.bd), some (.int t), none, none] ∧ HpAt H' h q ∧ Kpt h q H H' ∧ H' lg = some (tL G) ∧ t.natAbs ≤ 3 ∧ (r.eq = false → 0 ≤ t), ?_, fun σ H4 hM => ?_⟩
      · refine ⟨_, rfl, h, q, 4, rfl, a3, by decide, by decide, fun d H4 d0 d1 a4 kp4 => ⟨_, rfl, r.eq, rfl, ?_⟩⟩
        have hG4 := kp4 _ _ hG3 g1 g2
        cases he : r.eq with
        | true => exact iteT ⟨_, _, rfl, rfl, _, rfl, a4, kp3.trans kp4, hG4, by omega, fun z => nomatch z⟩
        | false => exact iteF ⟨_, _, rfl, rfl, _, rfl, a4, kp3.trans kp4, hG4, by omega, fun _ => by omega⟩
      · obtain ⟨t, rfl, a4, kp4, hG4, t3, tp⟩ := hM
        have tk4 := TK.kp kp4 a0
        refine ⟨_, rfl, px, _, rfl, .inl (sq_lst (kp4 _ _ hpx x1 x2)), _, rfl, by rw [List.length_map]; omega, by rw [List.length_map]; omega, ?_⟩
        rw [List.length_map]
        have gl := sh.len
        refine fun D nD => lc_range (lo := 0) (n := ((xs.length : Nat) : Int).toNat) (fun j H' => H' D = some (.lst ((((G.zip r.am).take j).map fun p => p.1 + t * p.2).map V.int)) ∧ Same H4 H') ⟨upd_same, same_upd nD⟩ (fun j H5 hj hI => ?_) (fun H5 hI => ?_)
        · obtain ⟨hD, s5⟩ := hI
          rw [Int.toNat_natCast] at hj
          rw [show ((0 : Int) + (j : Nat)) = (j : Int) by omega]
          have hg : G[j]? = some (G[j]'(by omega)) := List.getElem?_eq_getElem (by omega)
          have ha : r.am[j]? = some (r.am[j]'(by omega)) := List.getElem?_eq_getElem (by omega)
          generalize G[j]'(by omega) = g at *
          generalize r.am[j]'(by omega) = am at *
          refine ⟨rfl, _, rfl, _, rfl, lg, _, _, .int g, rfl, rfl, sq_lst (s5 _ _ hG4), atI_nat (by rw [List.getElem?_map, hg]; rfl), _, rfl, _, rfl, _, rfl, qa, _, _, .int am, rfl, rfl, sq_tup (s5 _ _ (tk4 _ _ hqa)), atI_nat (by rw [List.getElem?_map, ha]; rfl), _, _, rfl, rfl, .inl ⟨by omega, by omega⟩, _, _, rfl, rfl, _, hD, small1000 (by rw [List.length_map, List.length_map, List.length_take]; have := W.n6; omega), ?_, same_at s5 nD⟩
          rw [upd_same, take_one (zip_at hg ha), List.map_append, List.map_append]; rfl
        · obtain ⟨hD, s5⟩ := hI
          rw [Int.toNat_natCast, List.take_of_length_le (by rw [List.length_zip]; omega)] at hD
          have fD := a4.fresh nD
          refine ⟨D, addL G t r.am, _, _, _, _, _, rfl, a4.same s5, kp4.trans (.of_same s5), hD, fD.1, fD.2, sh.add mr (by omega) r2 c t3 tp⟩
    · obtain ⟨lg, G, y5, y6, y7, y8, y9, rfl, a2, kp2, hG, g1, g2, sh⟩ := hh
      have hn : rl.length = ws.length := lr.symm
      have tk := TK.kp kp2 a0
      have T2 := Kpt_tv tk0 kp2 a0
      have gl : G.length = ul.length := sh.len.trans lx
      have gs : Sm 1000 G := fun c hc => Nat.le_trans (sh.sm c hc) (by have := W.rl7; omega)
      have rok : ∀ r, Wish.sum r ∈ rl.map Wish.sum → r.am.length = ul.length ∧ Sm 1000 r.am := fun r hr => by
        obtain ⟨r', h1, h2⟩ := List.mem_map.mp hr
        cases h2
        exact ⟨(W.rs r h1).1, fun c hc => Nat.le_trans ((W.rs r h1).2.1 c hc) (by decide)⟩
      have ltt := turnsF_len eT
      have pm := turnsF_pm rok eT
      have bd := W.bd
      have f12s : ∀ f ∈ stF xs, F12 f := fun f hf => by
        obtain ⟨y, hy, rfl⟩ := List.mem_map.mp hf
        exact f12_low (bd y hy)
      have w7 := W.rl7
      have ls : (stF xs).length = ul.length := by unfold stF; rw [List.length_map]; exact lx
      have sv2 := sv0.tk tk
      have hpx2 := kp2 _ _ hpx x1 x2
      obtain ⟨x9, dx9, pu9, pw9, pg9, us9, ws9, ex, hx2, hpu2, uv2, hpw2, wv2, hpg2⟩ := id T2
      cases ex
      refine ⟨_, rfl, _, C, _, _, _, rfl, hx2, cc.cl, cc.nu, lk_u _ _ _, _, rfl, _, C, _, _, _, rfl, hx2, cc.cl, cc.nw, lk_w _ _ _, _, rfl, lg, _, rfl, .inl ⟨sq_lst hG, fun pn npn => fun xn dn nx ndx nxd => ?_⟩⟩
      have y5' := same_upd (o := .tup (G.map V.int)) npn
      have hpn : upd H2 pn (.tup (G.map V.int)) pn = some (tI G) := upd_same
      generalize upd H2 pn (.tup (G.map V.int)) = HA at *
      have y6' := same_upd (o := .own xn) ndx
      have nx6 : upd HA dn (.own xn) xn = none := by rw [upd_ne nxd.symm]; exact nx
      have y7 := y6'.trans (same_upd (o := .ins C dn []) nx6)
      have z7 : upd (upd HA dn (.own xn)) xn (.ins C dn []) xn = some (.ins C dn []) := upd_same
      generalize upd (upd HA dn (.own xn)) xn (.ins C dn []) = HC at *
      have s2C := y5'.trans y7
      refine ⟨xn, dn, _, _, pn, _, _, ul, rl.map .sum, G, rfl, z7, s2C _ _ hpu2, uv2.same s2C, s2C _ _ hpw2, wv2.same s2C, y7 _ _ hpn, uok, fun z hz => by obtain ⟨r, hr, rfl⟩ := List.mem_map.mp hz; exact ⟨rwo r hr, by omega⟩, gl, fun HD sD => ?_⟩
      refine ⟨rfl, ?_⟩
      have s2E : Same H2 (upd HD xn (.ins C dn [("unknowns", .ref pu9), ("wishes", .ref pw9), ("goal", .ref pn)])) := same_at (s2C.trans sD) (y5'.free nx)
      have hxE : upd HD xn (.ins C dn [("unknowns", .ref pu9), ("wishes", .ref pw9), ("goal", .ref pn)]) xn = some (.ins C dn [("unknowns", .ref pu9), ("wishes", .ref pw9), ("goal", .ref pn)]) := upd_same
      have sAE : Same HA (upd HD xn (.ins C dn [("unknowns", .ref pu9), ("wishes", .ref pw9), ("goal", .ref pn)])) := same_at (y7.trans sD) nx
      have hpnE := sAE _ _ hpn
      generalize upd HD xn (.ins C dn [("unknowns", .ref pu9), ("wishes", .ref pw9), ("goal", .ref pn)]) = HE at *
      have tvE : TaskV C HE (.ref xn) ul (rl.map .sum) G := ⟨xn, dn, pu9, pw9, pn, us9, ws9, rfl, hxE, s2E _ _ hpu2, uv2.same s2E, s2E _ _ hpw2, wv2.same s2E, hpnE⟩
      refine ⟨_, rfl, _, rfl, .ref xn, ul, rl.map .sum, G, rfl, tvE, by rw [List.length_map]; omega, by omega, rok, fun H6 s6 e => (by rw [eT] at e; cases e), fun H6 p6 ts6 s6 e hp6 => ?_⟩
      obtain rfl : ts = ts6 := Option.some.inj (eT.symm.trans e)
      have s26 := s2E.trans s6
      refine ⟨_, rfl, _, rfl, .ref xn, .ref p6, sv, px, ul, rl, G, ts, xs, rfl, same_tv tvE s6, ⟨p6, rfl, hp6⟩, sv2.same s26, s26 _ _ hpx2, W, gl, gs, eT, fun H7 s7 => ⟨true, rfl, iteF ?_⟩⟩
      have s67 := s6.trans s7
      have s27 := s2E.trans s67
      refine ⟨_, rfl, _, rfl, _, rfl, .ref xn, sv, ul, rl.map .sum, G, stF xs, rfl, same_tv tvE s67, sv2.same s27, by rw [List.length_map]; omega, by omega, rok, ls, gl, f12s, gs, fun H8 s8 e => (by rw [eT] at e; cases e), fun H8 ts8 ns v s8 e pwn mem oi => ?_⟩
      obtain rfl : ts = ts8 := Option.some.inj (eT.symm.trans e)
      obtain ⟨m, mb, ed, le⟩ := duF_some (g := G) pm (show xs.length = ts.length by omega)
      have eP : (ns.map fun n => (thP (stF xs) ts n).2) = (mkI ts xs 12).map fun m => pt ts xs m := by
        have h1 := congrArg (List.map Prod.snd) (thP_eq bd pwn mem)
        rw [List.map_map, List.map_map] at h1
        exact h1
      rw [eP, show bestF G ((mkI ts xs 12).map fun m => pt ts xs m) = some (pt ts xs m) from ed] at oi
      obtain ⟨pv, rfl, hpv⟩ := oi
      have s28 := s27.trans s8
      have ptl : (pt ts xs m).length = ul.length := (pt_len ts xs m (by omega)).trans ltt
      refine ⟨.ref lg, .ref pv, G, _, rfl, ⟨lg, rfl, .inl (s28 _ _ hG)⟩, ⟨pv, rfl, .inr hpv⟩, by omega, by omega, gs, fun H9 s9 => ⟨_, _, rfl, rfl, .inl ⟨by decide, by decide⟩, ?_⟩⟩
      have s29 := s28.trans s9
      refine ⟨_, rfl, _, rfl, .ref lg, .ref px, G, xs, rfl, ⟨lg, rfl, .inl (s29 _ _ hG)⟩, ⟨px, rfl, .inl (s29 _ _ hpx2)⟩, by omega, by omega, gs, fun HF sF => ⟨rfl, ?_⟩⟩
      obtain ⟨Tt, eTt, mn⟩ := sh.t
      have fitA := turnsF_fit rok eT
      have kk := (keeps_pt W ltt pm (fun r hr => List.all_eq_true.mp fitA (.sum r) (List.mem_map.mpr ⟨r, hr, rfl⟩)) mb.1 mb.2).2.2
      have lo := mn (pt ts xs m) kk
      have eq : 12 * dot G (pt ts xs m) = dot G xs := by omega
      have s2F := s29.trans sF
      have := fin HF (a2.same s2F) (kp2.trans (.of_same s2F))
      rw [← decide_eq_true (show V.int (12 * dot G (pt ts xs m)) = V.int (dot G xs) from congrArg V.int eq)] at this
      exact this
end
end M57

namespace M57
open PySem PySem.Spec PyProof.Rows L2 SX Own Gd
/-! ### a drawn threshold is as good as a mark -/
def mkT (top bottom : Int) : Int := (12 * top + bottom - 1) / bottom
theorem mkT_iff {top bottom : Int} (b0 : 0 < bottom) (a : Int) : 12 * top ≤ a * bottom ↔ mkT top bottom ≤ a := by
  unfold mkT
  have h := Int.ediv_lt_iff_lt_mul (a := 12 * top + bottom - 1) (b := a + 1) b0
  rw [Int.add_mul, Int.one_mul] at h
  constructor
  · intro z
    have := h.mpr (by omega)
    omega
  · intro z
    have := h.mp (by omega)
    omega
theorem mkT_bd {top bottom : Int} (t1 : 1 ≤ top) (t2 : top ≤ bottom) : 1 ≤ mkT top bottom ∧ mkT top bottom ≤ 12 := by
  constructor
  · rcases Int.lt_or_le (mkT top bottom) 1 with h | h
    · have := (mkT_iff (top := top) (show 0 < bottom by omega) 0).mpr (by omega)
      omega
    · exact h
  · exact (mkT_iff (show 0 < bottom by omega) 12).mp (by omega)
theorem rd_drawn {t x top bottom : Int} {f th : Fr} {g k : Int} (b0 : 0 < bottom) (h : Low x 12 f g) (hm : Low top bottom th k) : rdF th (f, t) = ptF (mkT top bottom) (t, x) := by
  have ea := ab_low (t := t) h
  unfold rdF ptF
  dsimp only
  rw [div_low h]
  generalize he : t * f.1 - t * f.1 / f.2 * f.2 = e at *
  have gk : 0 < g * k := Int.mul_pos h.g0 hm.g0
  have l1 : g * k * (e * th.2) = abF (t, x) * bottom := by
    rw [ea]
    conv => rhs; rw [hm.e2]
    ac_rfl
  have l2 : g * k * (th.1 * f.2) = 12 * top := by
    conv => rhs; rw [hm.e1, h.e2]
    ac_rfl
  have iff := mkT_iff (top := top) b0 (abF (t, x))
  by_cases c : mkT top bottom ≤ abF (t, x)
  · rw [if_pos c, if_neg]
    intro z
    have := Int.mul_lt_mul_of_pos_left z gk
    have := iff.mpr c
    omega
  · rw [if_neg c, if_pos, Int.add_zero]
    refine Int.lt_of_mul_lt_mul_left (a := g * k) ?_ (Int.le_of_lt gk)
    have : ¬ 12 * top ≤ abF (t, x) * bottom := fun z => c (iff.mp z)
    omega
theorem rnd_drawn {top bottom : Int} (b0 : 0 < bottom) : ∀ {xs ts : List Int}, rnd (stF xs) ts (lowF top bottom) = pt ts xs (mkT top bottom)
  | [], ts => by cases ts <;> rfl
  | x :: xs, [] => rfl
  | x :: xs, t :: ts => by
    have ih := rnd_drawn (top := top) b0 (xs := xs) (ts := ts)
    unfold rnd pt stF at ih ⊢
    rw [List.map_cons, List.zip_cons_cons, List.zip_cons_cons, List.map_cons, List.map_cons, ih, rd_drawn b0 (low_of x (by decide)) (low_of top b0)]
end M57

namespace M57
open PySem PySem.Spec PyProof.Rows L2 SX Own Gd
open C8 (Cal pe_c pe_gc pe_mk Mak pss_cut)
theorem wvs_app {H : Hp} : ∀ {us us' : List V} {wl wl' : List Wish}, WVs H us wl → WVs H us' wl' → WVs H (us ++ us') (wl ++ wl')
  | _, _, _, _, .nil, h => h
  | _, _, _, _, .cons g t, h => .cons g (wvs_app t h)
theorem wvs_rows {H : Hp} : ∀ {us : List V} {rl : List Row}, All2 (RV H) us rl → WVs H us (rl.map .sum)
  | _, _, .nil => .nil
  | _, _, .cons h t => .cons (show WV H _ (.sum _) from h) (wvs_rows t)
theorem cat_w {K : PySem.W.Frag} {H : Hp} {p1 p2 : Addr} {us1 us2 : List V} {wl1 wl2 : List Wish} {Q : VK} (h1 : H p1 = some (.tup us1)) (h2 : H p2 = some (.tup us2)) (w1 : WVs H us1 wl1) (w2 : WVs H us2 wl2) (l : us1.length + us2.length ≤ 1000)
    (q : ∀ p ws H', Same H H' → H' p = some (.tup ws) → WVs H' ws (wl1 ++ wl2) → Q (.ref p) H') : rCatA K (.ref p1) (.ref p2) H Q := by
  refine ⟨p1, p2, us1, us2, rfl, rfl, sq_tup h1, sq_tup h2, by rw [sizeLine_eq]; omega, fun e => ?_, fun _ e => ?_, fun _ _ p np => ?_⟩
  · subst e
    cases w1
    exact q p2 us2 H (Same.refl _) h2 w2
  · subst e
    cases w2
    exact q p1 us1 H (Same.refl _) h1 (by rw [List.append_nil]; exact w1)
  · have k := same_upd (o := .tup (us1 ++ us2)) np
    exact q p _ _ k upd_same (wvs_app (w1.same k) (w2.same k))
theorem cut_to {xs : List V} {n : Nat} (h : n ≤ xs.length) : cutV xs none (some (n : Int)) = xs.take n := by
  unfold cutV
  rw [HT.sIx_none, show HT.sIx xs.length xs.length (some (n : Int)) = min n xs.length from HT.sIx_nat _ _ n, List.drop_zero, Nat.sub_zero, Nat.min_eq_left h]
theorem cut_from {xs : List V} {n : Nat} (h : n ≤ xs.length) : cutV xs (some (n : Int)) none = xs.drop n := by
  unfold cutV
  rw [HT.sIx_nat, HT.sIx_none, Nat.min_eq_left h, List.take_of_length_le (by rw [List.length_drop]; omega)]
theorem slA_to {K : PySem.W.Frag} {H : Hp} {p : Addr} {us : List V} {rl : List Row} {n : Nat} {Q : VK} (hp : H p = some (.tup us)) (al : All2 (RV H) us rl) (hn : n ≤ us.length)
    (q : ∀ p' us' H', Same H H' → H' p' = some (.tup us') → All2 (RV H') us' (rl.take n) → Q (.ref p') H') : rSlA K (.ref p) none (some (n : Int)) H Q := by
  refine ⟨p, us, rfl, sq_tup hp, fun z => ?_, fun _ y ny => ?_⟩
  · have z := z.2
    rw [show HT.sIx us.length us.length (some (n : Int)) = min n us.length from HT.sIx_nat _ _ n] at z
    refine q p us H (Same.refl _) hp ?_
    rw [List.take_of_length_le (by rw [← al.len]; omega)]
    exact al
  · have k := same_upd (o := .tup (cutV us none (some (n : Int)))) ny
    refine q y (us.take n) _ k (by rw [upd_same, cut_to hn]) ?_
    exact (al.take n).mono fun v x h => h.same k
theorem slA_from {K : PySem.W.Frag} {H : Hp} {p : Addr} {us : List V} {rl : List Row} {n : Nat} {Q : VK} (hp : H p = some (.tup us)) (al : All2 (RV H) us rl) (hn : n ≤ us.length)
    (q : ∀ p' us' H', Same H H' → H' p' = some (.tup us') → All2 (RV H') us' (rl.drop n) → Q (.ref p') H') : rSlA K (.ref p) (some (n : Int)) none H Q := by
  refine ⟨p, us, rfl, sq_tup hp, fun z => ?_, fun _ y ny => ?_⟩
  · have z := z.1
    rw [HT.sIx_nat] at z
    have z0 : min n us.length = 0 := z
    have e0 : n = 0 ∨ us = [] := by
      rcases Nat.eq_zero_or_pos us.length with h | h
      · exact .inr (List.length_eq_zero_iff.mp h)
      · left; omega
    refine q p us H (Same.refl _) hp ?_
    rcases e0 with rfl | rfl
    · exact al
    · cases al
      rw [List.drop_nil]; exact .nil
  · have k := same_upd (o := .tup (cutV us (some (n : Int)) none)) ny
    refine q y (us.drop n) _ k (by rw [upd_same, cut_from hn]) ?_
    exact (al.drop n).mono fun v x h => h.same k
/-- rows with one wish more -/
structure SpOk (n : Nat) (wl : List Wish) : Prop where
  ok : ∀ z ∈ wl, WishOk n z
  rok : ∀ r, Wish.sum r ∈ wl → r.am.length = n ∧ Sm 1000 r.am
  few : wl.length ≤ 8
theorem SpOk.mk' {n : Nat} {rl : List Row} {z : Wish} (h : ∀ r ∈ rl, RowOk n r) (hn : n ≤ 100) (l7 : rl.length ≤ 7) (hz : WishOk n z) (hr : ∀ r, z = .sum r → r.am.length = n ∧ Sm 1000 r.am) (k : Nat) : SpOk n ((rl.take k).map .sum ++ [z] ++ (rl.drop k).map .sum) := by
  have mem : ∀ y ∈ (rl.take k).map Wish.sum ++ [z] ++ (rl.drop k).map Wish.sum, y = z ∨ ∃ r ∈ rl, y = .sum r := fun y hy => by
    rcases List.mem_append.mp hy with hy | hy
    · rcases List.mem_append.mp hy with hy | hy
      · obtain ⟨r, hr, rfl⟩ := List.mem_map.mp hy
        exact .inr ⟨r, List.mem_of_mem_take hr, rfl⟩
      · exact .inl (List.mem_singleton.mp hy)
    · obtain ⟨r, hr, rfl⟩ := List.mem_map.mp hy
      exact .inr ⟨r, List.mem_of_mem_drop hr, rfl⟩
  refine ⟨fun y hy => ?_, fun r hy => ?_, ?_⟩
  · rcases mem y hy with rfl | ⟨r, hr, rfl⟩
    · exact hz
    · exact ⟨h r hr, hn⟩
  · rcases mem _ hy with e | ⟨r2, hr2, e⟩
    · exact hr r e.symm
    · cases e
      exact ⟨(h r hr2).len, fun c hc => by have := (h r hr2).bd c hc; omega⟩
  · rw [List.length_append, List.length_append, List.length_map, List.length_map, List.length_take, List.length_drop, List.length_singleton]; omega
structure AmS (n x : Nat) (A : List Int) : Prop where
  len : A.length = n
  sm : Sm 3 A
  nz : A.getD x 0 ≠ 0
theorem AmS.set {n x : Nat} {A : List Int} (h : AmS n x A) {j : Nat} {c : Int} (hj : j < n) (c0 : c ≠ 0) (c3 : c.natAbs ≤ 3) : AmS n x (A.set j c) := by
  refine ⟨by rw [List.length_set]; exact h.len, sm_set h.sm c3, ?_⟩
  rw [getD_set (by rw [h.len]; exact hj)]
  split
  · exact c0
  · exact h.nz
theorem AmS.row {n x : Nat} {A : List Int} (h : AmS n x A) (hx : x < n) {e : Bool} {b : Int} : RowOk n ⟨A, e, b⟩ := by
  refine ⟨h.len, ⟨A.getD x 0, ?_, h.nz⟩, fun c hc => by have := h.sm c hc; omega⟩
  rw [List.getD_eq_getElem?_getD, List.getElem?_eq_getElem (by rw [h.len]; exact hx)]
  exact List.getElem_mem _
section
variable {P : Program} {w : World} {K : PySem.W.Frag} {mg : Str → Option Value} {base : Heap} {aW aT : Addr} {es : Array DictEntry} {nn : Nat}
abbrev s_Lspoilt : Stmt := topS 59
abbrev n_Lspoilt : List Str := ["deal", "many", "rows", "kind", "place", "amounts", "at", "other", "k"]
theorem sc_Lspoilt : FnScope n_Lspoilt ["deal", "many", "rows"] (defScope s_Lspoilt) := ⟨rfl, rfl, rfl, by decide +kernel, rfl, by decide +kernel, by decide +kernel⟩
def spSpoilt : Sp := fun vs H Q _ => ∃ (h q : Addr) (rv : V) (n : Nat) (rl : List Row), vs = [.ref h, .int n, rv] ∧ HpAt H h q ∧ RsV H rv rl ∧ rl.length ≤ 7 ∧ 1 ≤ n ∧ n ≤ 6 ∧ (∀ r ∈ rl, RowOk n r) ∧ ∀ H' p wl, WsV H' (.ref p) wl → SpOk n wl → HpAt H' h q → Kpt h q H H' → Q (.ref p) H'
theorem ok_Lspoilt {f : Addr} {fd : FuncData} (F : Fun K "_law_spoilt" "_law_spoilt" s_Lspoilt f fd) (T : Txt K mg w aW aT es nn) (b_min : mg "min" = none) (b_max : mg "max" = none) (c_Lany : Cal P w K mg base 1 "_law_any" spDraw []) (c_Lof : Cal P w K mg base 2 "_law_of" spPickL []) : FnOk P w K mg base CX0 3 f fd ["deal", "many", "rows"] spSpoilt := by
  refine F.ok sc_Lspoilt (fun vs H Q E h => ?_) (fun cdv A outer s H vs Q E hr h => ?_)
  · obtain ⟨h, q, rv, n, rl, rfl, _⟩ := h
    rfl
  · obtain ⟨h, q, rv, n, rl, rfl, a0, rs0, l7, n1, n6, rok, fin⟩ := h
    obtain ⟨pr, rs, rfl, hpr, rvs⟩ := id rs0
    have lr := rvs.len
    refine ⟨_, (pss_cons (ps_par (i := 3) (j := 4) (by rfl) sc_Lspoilt.nd rfl rfl (by decide) rfl rfl (pa_cons (pe_c c_Lany hr (by decide) (by rfl) (pa_cons (pv 0) (pa_cons pe_int pa_nil))) (pa_cons (pe_c c_Lany hr (by decide) (by rfl) (pa_cons (pv 0) (pa_cons (pe_op op_add (pe_callB call_len_seq (by rfl) T.b_len (by decide +kernel) (pa_cons (pv 2) pa_nil)) pe_int) pa_nil))) pa_nil)) (by rfl))
      (pss_cons (ps_set (i := 5) sc_Lspoilt.nd rfl (.inl rfl) (pe_op op_rep (pe_lst (pa_cons pe_int pa_nil)) (pv 1)))
      (pss_cons (ps_par (i := 6) (j := 7) (by rfl) sc_Lspoilt.nd rfl rfl (by decide) rfl rfl (pa_cons (pe_c c_Lany hr (by decide) (by rfl) (pa_cons (pv 0) (pa_cons (pv 1) pa_nil))) (pa_cons (pe_c c_Lany hr (by decide) (by rfl) (pa_cons (pv 0) (pa_cons (pv 1) pa_nil))) pa_nil)) (by rfl))
      (pss_cons (ps_asg (pe_c c_Lof hr (by decide) (by rfl) (pa_cons (pv 0) (pa_cons (pe_lst (pa_cons pe_int (pa_cons (pe_un un_neg pe_int) pa_nil))) pa_nil))) (pg_sub (pv 5) (pv 6) set_list))
      (pss_cut (ps_if (PW.pt (pw_and (pt_cmpR op_eq (pv 3) pe_int (nomark _)) (pw_and1 (pt_cmpR op_ne (pv 7) (pv 6) (nomark _))))) (pss_one (ps_ret (pe_op op_catA (pe_op op_catA (pe_slice sl_tupA (pv 2) po_none (po_some (pv 4))) (pe_tup (pa_cons (pe_tup (pa_cons pe_str (pa_cons (pe_tup (pa_cons (pe_callB (call_min2 rfl) (by rfl) b_min (by decide +kernel) (pa_cons (pv 6) (pa_cons (pv 7) pa_nil))) (pa_cons (pe_callB (call_max2 rfl) (by rfl) b_max (by decide +kernel) (pa_cons (pv 6) (pa_cons (pv 7) pa_nil))) pa_nil))) pa_nil))) pa_nil))) (pe_slice sl_tupA (pv 2) (po_some (pv 4)) po_none)))) pss_nil)
      (pss_cut (ps_if (pt_cmpR op_eq (pv 3) pe_int (nomark _)) (pss_one (ps_asg (pe_c c_Lof hr (by decide) (by rfl) (pa_cons (pv 0) (pa_cons (pe_lst (pa_cons pe_int (pa_cons (pe_un un_neg pe_int) (pa_cons pe_int pa_nil)))) pa_nil))) (pg_sub (pv 5) (pv 6) set_list))) (pss_one (ps_if (PW.pt (pw_and (pt_cmpR op_eq (pv 3) pe_int (nomark _)) (pw_and1 (pt_cmpR op_gt (pv 1) pe_int (nomark _))))) (pss_one (ps_for PassesOwn.never rfl (pi_range1 (by rfl) T.b_range (pa_cons pe_int pa_nil)) (pg_name (i := 8) sc_Lspoilt.nd rfl (.inl rfl)) (pss_one (ps_asg (pe_c c_Lof hr (by decide) (by rfl) (pa_cons (pv 0) (pa_cons (pe_lst (pa_cons pe_int (pa_cons (pe_un un_neg pe_int) pa_nil))) pa_nil))) (pg_sub (pv 5) (pe_op op_mod (pe_callTy call_int1 (by rfl) T.b_int (by decide +kernel) (pa_cons (pe_op op_add (pv 6) (pv 8)) pa_nil)) (pv 1)) set_list))))) (pss_one (ps_if (pt_cmpR op_ne (pv 7) (pv 6) (nomark _)) (pss_one (ps_asg (pe_c c_Lof hr (by decide) (by rfl) (pa_cons (pv 0) (pa_cons (pe_lst (pa_cons pe_int (pa_cons (pe_un un_neg pe_int) pa_nil))) pa_nil))) (pg_sub (pv 5) (pv 7) set_list))) pss_nil)))))
      (pss_one (ps_ret (pe_op op_catA (pe_op op_catA (pe_slice sl_tupA (pv 2) po_none (po_some (pv 4))) (pe_tup (pa_cons (pe_tup (pa_cons pe_str (pa_cons (pe_callTy call_tuple_of (by rfl) T.b_tuple (by decide +kernel) (pa_cons (pv 5) pa_nil)) (pa_cons (pe_cmpR op_eq (pe_c c_Lany hr (by decide) (by rfl) (pa_cons (pv 0) (pa_cons pe_int pa_nil))) pe_int (nomark _)) (pa_cons (pe_op op_sub (pe_c c_Lany hr (by decide) (by rfl) (pa_cons (pv 0) (pa_cons pe_int pa_nil))) pe_int) pa_nil))))) pa_nil))) (pe_slice sl_tupA (pv 2) (po_some (pv 4)) po_none)))))))))), ?_⟩
    refine ⟨_, rfl, h, q, 4, rfl, a0, by decide, by decide, fun kd H1 kd0 kd1 a1 kp1 => ?_⟩
    refine ⟨_, rfl, _, rfl, pr, _, rfl, .inr (sq_tup (TK.kp kp1 a0 _ _ hpr)), _, _, rfl, rfl, h, q, _, rfl, a1, by omega, by omega, fun pl H2 pl0 pl1 a2 kp2 => ⟨_, _, rfl, ?_⟩⟩
    obtain ⟨pl, rfl⟩ : ∃ j : Nat, pl = (j : Int) := ⟨pl.toNat, by omega⟩
    have plr : pl ≤ rs.length := by omega
    refine ⟨len1, fun l0 nl0 => ⟨_, rfl, l0, _, _, rfl, rfl, upd_same, by omega, by omega, ?_, fun l nl => ?_⟩⟩
    · rw [List.length_singleton, Int.toNat_natCast, sizeLine_eq]; omega
    rw [repf, Int.toNat_natCast]
    have k1 := (same_upd (o := .lst [.int 0]) nl0).trans (same_upd (o := .lst (List.replicate n (.int 0))) nl)
    have nl2 : H2 l = none := (same_upd (o := .lst [.int 0]) nl0).free nl
    obtain ⟨l1, l2⟩ := a2.fresh nl2
    have kp02 := kp1.trans kp2
    have nlH : H l = none := kp02.free nl2 l1 l2
    have el : upd (upd H2 l0 (.lst [.int 0])) l (.lst (List.replicate n (.int 0))) l = some (tL (List.replicate n 0)) := by rw [upd_same]; unfold tL; rw [List.map_replicate]
    have a3 := a2.same k1
    have kp03 := kp02.trans (.of_same (h := h) (q := q) k1)
    generalize upd (upd H2 l0 (.lst [.int 0])) l (.lst (List.replicate n (.int 0))) = H3 at *
    refine ⟨_, rfl, _, rfl, h, q, _, rfl, a3, by omega, by omega, fun x H4 x0 xn a4 kp4 => ?_⟩
    obtain ⟨x, rfl⟩ : ∃ j : Nat, x = (j : Int) := ⟨x.toNat, by omega⟩
    refine ⟨_, rfl, _, rfl, h, q, _, rfl, a4, by omega, by omega, fun y H5 y0 yn a5 kp5 => ⟨_, _, rfl, ?_⟩⟩
    obtain ⟨y, rfl⟩ : ∃ j : Nat, y = (j : Int) := ⟨y.toNat, by omega⟩
    have xl : x < n := by omega
    have yl : y < n := by omega
    have kp05 := (kp03.trans kp4).trans kp5
    have el5 := (kp4.trans kp5) _ _ el l1 l2
    refine ⟨_, rfl, _, rfl, len2, fun p1 np1 => ?_⟩
    have kq := same_upd (o := .lst [.int 1, .int (-1)]) np1
    obtain ⟨f1, f2⟩ := a5.fresh np1
    refine ⟨h, q, p1, _, rfl, a5.same kq, upd_same, f1, f2, by simp, by show 2 ≤ 1000; decide, fun v H6 mv a6 kp6 => ?_⟩
    obtain ⟨s, rfl, hs⟩ : ∃ s, v = V.int s ∧ (s = 1 ∨ s = -1) := by
      rcases List.mem_cons.mp mv with e | e
      · exact ⟨1, e, .inl rfl⟩
      · exact ⟨-1, List.mem_singleton.mp e, .inr rfl⟩
    have kp56 := (Kpt.of_same (h := h) (q := q) kq).trans kp6
    have kp06 := kp05.trans kp56
    have el6 := kp56 _ _ el5 l1 l2
    refine ⟨_, rfl, _, rfl, l, _, (x : Nat), x, rfl, rfl, el6, ixN_nat (by rw [List.length_map, List.length_replicate]; exact xl), ?_⟩
    rw [set_mapI]
    have am0 : AmS n x ((List.replicate n 0).set x s) := ⟨by rw [List.length_set, List.length_replicate], sm_set sm_rep (by rcases hs with rfl | rfl <;> decide), by rw [getD_set (by rw [List.length_replicate]; exact xl), if_pos rfl]; rcases hs with rfl | rfl <;> decide⟩
    have el7 : upd H6 l (.lst (((List.replicate n 0).set x s).map V.int)) l = some (tL ((List.replicate n 0).set x s)) := upd_same
    have a7 := a6.upd (o := .lst (((List.replicate n 0).set x s).map V.int)) l1 l2
    have kp07 : Kpt h q H _ := kp06.at_new (o := .lst (((List.replicate n 0).set x s).map V.int)) nlH
    generalize upd H6 l (.lst (((List.replicate n 0).set x s).map V.int)) = H7 at *
    generalize (List.replicate n (0 : Int)).set x s = A0 at *
    have tk7 := TK.kp kp07 a0
    refine ⟨fun σ H' => σ = [some (.ref h), some (.int (n : Nat)), some (.ref pr), some (.int kd), some (.int (pl : Nat)), some (.ref l), some (.int (x : Nat)), some (.int (y : Nat)), none] ∧ H' = H7, ?_, fun σ H8 hM => ?_⟩
    · refine ⟨_, rfl, rfl, _, rfl, ite2 (fun _ => ⟨_, rfl, _, rfl, rfl, _, rfl, ite2 (fun ne => ?_) (fun _ => ⟨rfl, rfl⟩)⟩) (fun _ => ⟨rfl, rfl⟩)⟩
      have ne : y ≠ x := fun e => by rw [e] at ne; simp at ne
      refine ⟨_, rfl, _, rfl, _, rfl, slA_to (tk7 _ _ hpr) (rvs.mono fun v r k => k.tk tk7) plr fun b1 w1 Hm1 sm1 hb1 al1 => ?_⟩
      have lw1 := al1.len
      rw [List.length_take] at lw1
      refine ⟨_, rfl, _, rfl, _, _, rfl, _, rfl, _, rfl, _, _, rfl, len2, fun b2 nb2 => ?_⟩
      have wi : ∀ z : Int, z = x ∨ z = y → 0 ≤ z ∧ z < (n : Int) := fun z h => by rcases h with rfl | rfl <;> omega
      have lo1 : (if (y : Int) < (x : Int) then (y : Int) else (x : Int)) = x ∨ (if (y : Int) < (x : Int) then (y : Int) else (x : Int)) = y := by split <;> simp
      have hi1 : (if (y : Int) > (x : Int) then (y : Int) else (x : Int)) = x ∨ (if (y : Int) > (x : Int) then (y : Int) else (x : Int)) = y := by split <;> simp
      have lt1 : (if (y : Int) < (x : Int) then (y : Int) else (x : Int)) < (if (y : Int) > (x : Int) then (y : Int) else (x : Int)) := by split <;> split <;> omega
      generalize (if (y : Int) < (x : Int) then (y : Int) else (x : Int)) = lo at *
      generalize (if (y : Int) > (x : Int) then (y : Int) else (x : Int)) = hi at *
      have k2 := same_upd (o := .tup [.int lo, .int hi]) nb2
      have e2 : upd Hm1 b2 (.tup [.int lo, .int hi]) b2 = some (tI [lo, hi]) := upd_same
      generalize upd Hm1 b2 (.tup [.int lo, .int hi]) = Hm2 at *
      refine ⟨len2, fun b3 nb3 => ?_⟩
      have k3 := same_upd (o := .tup [.str "unlike", .ref b2]) nb3
      have e3 : upd Hm2 b3 (.tup [.str "unlike", .ref b2]) b3 = some (.tup [.str "unlike", .ref b2]) := upd_same
      generalize upd Hm2 b3 (.tup [.str "unlike", .ref b2]) = Hm3 at *
      refine ⟨len1, fun b4 nb4 => ?_⟩
      have k4 := same_upd (o := .tup [.ref b3]) nb4
      have e4 : upd Hm3 b4 (.tup [.ref b3]) b4 = some (.tup [.ref b3]) := upd_same
      generalize upd Hm3 b4 (.tup [.ref b3]) = Hm4 at *
      have k14 := (k2.trans k3).trans k4
      refine cat_w (wl1 := (rl.take pl).map .sum) (wl2 := [.unlike [lo, hi]]) (k14 _ _ hb1) e4 (wvs_rows (al1.mono fun v r k => k.same k14)) (.cons ⟨b3, .ref b2, rfl, k4 _ _ e3, b2, rfl, (k3.trans k4) _ _ e2⟩ .nil) (by show w1.length + 1 ≤ 1000; omega) fun b5 w5 Hm5 sm5 hb5 wv5 => ?_
      have s75 := (sm1.trans k14).trans sm5
      have tk5 := tk7.trans (.of s75)
      refine ⟨_, rfl, _, rfl, _, rfl, ?_⟩
      first | unfold tNoPart | dsimp only
      refine slA_from (tk5 _ _ hpr) (rvs.mono fun v r k => k.tk tk5) plr fun b6 w6 Hm6 sm6 hb6 al6 => ?_
      have lw6 := al6.len
      rw [List.length_drop] at lw6
      have lw5 := wv5.len
      rw [List.length_append, List.length_map, List.length_take] at lw5
      refine cat_w (wl2 := (rl.drop pl).map .sum) (sm6 _ _ hb5) hb6 (wv5.same sm6) (wvs_rows al6) (by have : [Wish.unlike [lo, hi]].length = 1 := rfl; omega) fun b7 w7 Hm7 sm7 hb7 wv7 => ?_
      have s77 := (s75.trans sm6).trans sm7
      refine fin _ b7 _ ⟨b7, w7, rfl, hb7, wv7⟩ (SpOk.mk' rok (by omega) l7 (z := .unlike [lo, hi]) ⟨fun c hc => ?_, ?_, by simp, by simp⟩ (fun r hr => nomatch hr) pl) (a7.same s77) (kp07.trans (.of_same s77))
      · rcases List.mem_cons.mp hc with rfl | hc
        · exact wi _ lo1
        · rw [List.mem_singleton.mp hc]; exact wi _ hi1
      · intro i u v e1 e2
        match i with
        | 0 => cases e1; cases e2; exact lt1
        | i + 1 => simp at e2
    obtain ⟨rfl, rfl⟩ := hM
    have nl7 : Kpt h q H H8 := kp07
    refine ⟨fun σ H' => ∃ A y8, σ = [some (.ref h), some (.int (n : Nat)), some (.ref pr), some (.int kd), some (.int (pl : Nat)), some (.ref l), some (.int (x : Nat)), some (.int (y : Nat)), y8] ∧ H' l = some (tL A) ∧ AmS n x A ∧ HpAt H' h q ∧ Kpt h q H H', ?_, fun σ H9 hM => ?_⟩
    · have lA := am0.len
      -- one of 1 and -1 put at a place
      refine ⟨_, rfl, rfl, _, rfl, ite2 (fun _ => ?_) (fun _ => ?_)⟩
      · refine ⟨_, rfl, _, rfl, len3, fun p1 np1 => ?_⟩
        have kq := same_upd (o := .lst [.int 2, .int (-2), .int 3]) np1
        obtain ⟨f1, f2⟩ := a7.fresh np1
        refine ⟨h, q, p1, _, rfl, a7.same kq, upd_same, f1, f2, by simp, by show 3 ≤ 1000; decide, fun v H9 mv a9 kp9 => ?_⟩
        obtain ⟨s, rfl, hs⟩ : ∃ s, v = V.int s ∧ (s = 2 ∨ s = -2 ∨ s = 3) := by
          rcases List.mem_cons.mp mv with e | e
          · exact ⟨2, e, .inl rfl⟩
          rcases List.mem_cons.mp e with e | e
          · exact ⟨-2, e, .inr (.inl rfl)⟩
          · exact ⟨3, List.mem_singleton.mp e, .inr (.inr rfl)⟩
        have kp79 := (Kpt.of_same (h := h) (q := q) kq).trans kp9
        have el9 := kp79 _ _ el7 l1 l2
        refine ⟨_, rfl, _, rfl, l, _, (x : Nat), x, rfl, rfl, el9, ixN_nat (by rw [List.length_map, lA]; exact xl), ?_⟩
        rw [set_mapI]
        exact ⟨_, _, rfl, upd_same, am0.set xl (by rcases hs with rfl | rfl | rfl <;> decide) (by rcases hs with rfl | rfl | rfl <;> decide), a9.upd l1 l2, (kp07.trans kp79).at_new nlH⟩
      · -- a place gets 1 or -1
        have one : ∀ v : V, v ∈ [V.int 1, V.int (-1)] → ∃ s : Int, v = V.int s ∧ s ≠ 0 ∧ s.natAbs ≤ 3 := fun v mv => by
          rcases List.mem_cons.mp mv with e | e
          · exact ⟨1, e, by decide, by decide⟩
          · exact ⟨-1, List.mem_singleton.mp e, by decide, by decide⟩
        refine ⟨_, rfl, rfl, _, rfl, ite2 (fun _ => ⟨_, rfl, _, _, rfl, rfl, _, rfl, ite2 (fun _ => ?_) (fun _ => ?_)⟩) (fun _ => ?_)⟩
        · refine ⟨3, rfl, by decide, by decide, for_range (lo := 0) (n := (3 : Int).toNat) (fun i σ H' => ∃ A y8, σ = [some (.ref h), some (.int (n : Nat)), some (.ref pr), some (.int kd), some (.int (pl : Nat)), some (.ref l), some (.int (x : Nat)), some (.int (y : Nat)), y8] ∧ H' l = some (tL A) ∧ AmS n x A ∧ HpAt H' h q ∧ Kpt h q H H')
            ⟨_, _, rfl, el7, am0, a7, kp07⟩ (fun i σ H9 hi hI => ?_) (fun σ H9 hI => hI)⟩
          obtain ⟨A, y8, rfl, el9, am9, a9, kp9⟩ := hI
          refine ⟨_, rfl, _, rfl, len2, fun p1 np1 => ?_⟩
          have kq := same_upd (o := .lst [.int 1, .int (-1)]) np1
          obtain ⟨f1, f2⟩ := a9.fresh np1
          refine ⟨h, q, p1, _, rfl, a9.same kq, upd_same, f1, f2, by simp, by show 2 ≤ 1000; decide, fun v HA mv aA kpA => ?_⟩
          obtain ⟨s, rfl, s0, s3⟩ := one v mv
          have kp9A := (Kpt.of_same (h := h) (q := q) kq).trans kpA
          have elA := kp9A _ _ el9 l1 l2
          refine ⟨_, rfl, _, rfl, _, rfl, _, _, rfl, rfl, .inl ⟨_, rfl, _, rfl, _, _, rfl, rfl, (by show (0 : Int) < (n : Int); omega), ?_⟩⟩
          obtain ⟨j, ej, jn⟩ : ∃ j : Nat, ((x : Int) + (0 + (i : Nat))) % (n : Int) = (j : Int) ∧ j < n := by
            have h0 := Int.emod_nonneg ((x : Int) + (0 + (i : Nat))) (show (n : Int) ≠ 0 by omega)
            have h1 := Int.emod_lt_of_pos ((x : Int) + (0 + (i : Nat))) (show (0 : Int) < n by omega)
            exact ⟨(((x : Int) + (0 + (i : Nat))) % (n : Int)).toNat, by omega, by omega⟩
          refine ⟨l, _, (j : Int), j, rfl, congrArg V.int ej, elA, ixN_nat (by rw [List.length_map, am9.len]; exact jn), ?_⟩
          rw [set_mapI]
          exact ⟨_, _, rfl, upd_same, am9.set jn s0 s3, aA.upd l1 l2, (kp9.trans kp9A).at_new nlH⟩
        all_goals
          refine ⟨_, rfl, _, rfl, rfl, _, rfl, ite2 (fun _ => ?_) (fun _ => ⟨_, _, rfl, el7, am0, a7, kp07⟩)⟩
          refine ⟨_, rfl, _, rfl, len2, fun p1 np1 => ?_⟩
          have kq := same_upd (o := .lst [.int 1, .int (-1)]) np1
          obtain ⟨f1, f2⟩ := a7.fresh np1
          refine ⟨h, q, p1, _, rfl, a7.same kq, upd_same, f1, f2, by simp, by show 2 ≤ 1000; decide, fun v HA mv aA kpA => ?_⟩
          obtain ⟨s, rfl, s0, s3⟩ := one v mv
          have kp9A := (Kpt.of_same (h := h) (q := q) kq).trans kpA
          have elA := kp9A _ _ el7 l1 l2
          refine ⟨_, rfl, _, rfl, l, _, (y : Nat), y, rfl, rfl, elA, ixN_nat (by rw [List.length_map, lA]; exact yl), ?_⟩
          rw [set_mapI]
          exact ⟨_, _, rfl, upd_same, am0.set yl s0 s3, aA.upd l1 l2, (kp07.trans kp9A).at_new nlH⟩
    · obtain ⟨A, y8, rfl, el9, am9, a9, kp9⟩ := hM
      have tk9 := TK.kp kp9 a0
      refine ⟨_, rfl, _, rfl, _, rfl, slA_to (tk9 _ _ hpr) (rvs.mono fun v r k => k.tk tk9) plr fun b1 w1 Hm1 sm1 hb1 al1 => ?_⟩
      have lw1 := al1.len
      rw [List.length_take] at lw1
      refine ⟨_, rfl, l, _, rfl, .inl ⟨sq_lst (sm1 _ _ el9), fun b2 nb2 => ?_⟩⟩
      have k2 := same_upd (o := .tup (A.map V.int)) nb2
      have e2 : upd Hm1 b2 (.tup (A.map V.int)) b2 = some (tI A) := upd_same
      have a2' := (a9.same sm1).same k2
      have fb2 := (a9.same sm1).fresh nb2
      generalize upd Hm1 b2 (.tup (A.map V.int)) = Hm2 at *
      refine ⟨_, rfl, h, q, 2, rfl, a2', by decide, by decide, fun d1 Hm3 d10 d11 a3' kp3 => ⟨rfl, ?_⟩⟩
      refine ⟨_, rfl, h, q, 7, rfl, a3', by decide, by decide, fun d2 Hm4 d20 d21 a4' kp4 => ⟨_, _, rfl, rfl, ?_⟩⟩
      have kp24 := kp3.trans kp4
      have e4 := kp24 _ _ e2 fb2.1 fb2.2
      have kpm : Kpt h q H9 Hm2 := .of_same (sm1.trans k2)
      have kp94 := kpm.trans kp24
      have tk4 := (TK.kp kp94 a9)
      have hb14 := TK.kp kp24 a2' _ _ (k2 _ _ hb1)
      have al14 := al1.mono fun v r (k : RV Hm1 v r) => (k.same k2).tk (TK.kp kp24 a2')
      generalize hbq : decide (V.int d1 = V.int 0) = bq
      refine ⟨len4, fun b3 nb3 => ?_⟩
      have k3 := same_upd (o := .tup [.str "sum", .ref b2, .bl bq, .int (d2 - 3)]) nb3
      have e3 : upd Hm4 b3 (.tup [.str "sum", .ref b2, .bl bq, .int (d2 - 3)]) b3 = some (.tup [.str "sum", .ref b2, .bl bq, .int (d2 - 3)]) := upd_same
      generalize upd Hm4 b3 (.tup [.str "sum", .ref b2, .bl bq, .int (d2 - 3)]) = Hm5 at *
      refine ⟨len1, fun b4 nb4 => ?_⟩
      have k4 := same_upd (o := .tup [.ref b3]) nb4
      have e5 : upd Hm5 b4 (.tup [.ref b3]) b4 = some (.tup [.ref b3]) := upd_same
      generalize upd Hm5 b4 (.tup [.ref b3]) = Hm6 at *
      have k34 := k3.trans k4
      refine cat_w (wl1 := (rl.take pl).map .sum) (wl2 := [.sum ⟨A, bq, d2 - 3⟩]) (k34 _ _ hb14) e5 (wvs_rows (al14.mono fun v r k => k.same k34)) (.cons ⟨b3, b2, rfl, k4 _ _ e3, k34 _ _ e4⟩ .nil) (by show w1.length + 1 ≤ 1000; omega) fun b5 w5 Hm7 sm5 hb5 wv5 => ?_
      have s47 := k34.trans sm5
      have tk5 := (tk9.trans tk4).trans (.of s47)
      refine ⟨_, rfl, _, rfl, _, rfl, ?_⟩
      first | unfold tNoPart | dsimp only
      refine slA_from (tk5 _ _ hpr) (rvs.mono fun v r k => k.tk tk5) plr fun b6 w6 Hm8 sm6 hb6 al6 => ?_
      have lw6 := al6.len
      rw [List.length_drop] at lw6
      have lw5 := wv5.len
      rw [List.length_append, List.length_map, List.length_take] at lw5
      refine cat_w (wl2 := (rl.drop pl).map .sum) (sm6 _ _ hb5) hb6 (wv5.same sm6) (wvs_rows al6) (by have : [Wish.sum ⟨A, bq, d2 - 3⟩].length = 1 := rfl; omega) fun b7 w7 Hm9 sm7 hb7 wv7 => ?_
      have s49 := (s47.trans sm6).trans sm7
      refine fin _ b7 _ ⟨b7, w7, rfl, hb7, wv7⟩ (SpOk.mk' rok (by omega) l7 (z := .sum ⟨A, bq, d2 - 3⟩) ⟨am9.row xl, by omega⟩ (fun r hr => ?_) pl) (a4'.same s49) ((kp9.trans kp94).trans (.of_same s49))
      cases hr
      exact ⟨am9.len, fun c hc => Nat.le_trans (am9.sm c hc) (by decide)⟩
end
end M57

namespace M57
open PySem PySem.Spec PyProof.Rows L2 SX Own Gd
open C8 (Cal pe_c pe_gc pe_mk Mak pss_cut)
/-! ### three arguments by keywords, the last one first -/
def rv3 {α : Type} : List α → List α
  | [a, b, c] => [c, b, a]
  | x => x
theorem rv3_of {α : Type} {ws : List α} (h : (rv3 ws).length = 3) : ∃ a b c, ws = [a, b, c] := by
  match ws, h with
  | [], h => cases h
  | [_], h => cases h
  | [_, _], h => cases h
  | [a, b, c], _ => exact ⟨a, b, c, rfl⟩
  | _ :: _ :: _ :: _ :: _, h => cases h
theorem vals_rv3 : ∀ {zs : List V} {ws : List Value}, Vals zs ws → Vals (rv3 zs) (rv3 ws)
  | _, _, .nil => .nil
  | _, _, .cons _ .nil => .cons ‹_› .nil
  | _, _, .cons a (.cons b .nil) => .cons a (.cons b .nil)
  | _, _, .cons a (.cons b (.cons c .nil)) => .cons c (.cons b (.cons a .nil))
  | _, _, .cons a (.cons b (.cons c (.cons d e))) => .cons a (.cons b (.cons c (.cons d e)))
theorem mkK3 {P : Program} {w : World} {K : PySem.W.Frag} {mg : Str → Option Value} {base : Heap} {x p1 p2 p3 : Str} {st : Stmt} {f : Addr} {fd : FuncData} {k : Nat} {sp : Sp} {CX : CXT} (F : Fun K x x st f fd) (ok : FnOk P w K mg base CX k f fd [p1, p2, p3] sp) (hC : CX = CX0 ∨ CX = L2.CX P w) (g : mg x = some (.ref f))
    (h : ∀ (kV doc pm : Value) (an : Option Addr) (cdv ct : Value) (a b c : Value), bindArgs (PySem.W.fnOf x x (defArgs st) (defBody st) (defScope st) .none kV doc pm an cdv ct) ⟨[], [p3, p2, p1].zip [a, b, c]⟩ = pure ([p1, p2, p3].zip [c, b, a])) : CalK P w K mg base k x [p3, p2, p1] rv3 sp := by
  have kp := F.kp
  obtain ⟨oc, od, kV, doc, pm, an, cdv, ct, osl, rfl, lk, hc⟩ := F.ex
  refine ⟨⟨f, _, [p1, p2, p3], rv3, CX, hC, ok, g, kp, fun s ws hl => ?_, fun _ _ r => vals_rv3 r⟩⟩
  obtain ⟨a, b, c, rfl⟩ := rv3_of hl
  exact .of_eq (h kV doc pm an cdv ct a b c)
/-! ### lists of drawn integers -/
structure LI (R : Int → Prop) (H0 H' : Hp) (h q D : Addr) (i : Nat) (ks : List Int) : Prop where
  e : H' D = some (tL ks)
  l : ks.length = i
  r : ∀ c ∈ ks, R c
  a : HpAt H' h q
  k : Kpt h q H0 H'
theorem LI.nil {R : Int → Prop} {H0 : Hp} {h q D : Addr} (a : HpAt H0 h q) (nD : H0 D = none) : LI R H0 (upd H0 D (.lst [])) h q D 0 [] := by
  obtain ⟨f1, f2⟩ := a.fresh nD
  exact ⟨upd_same, rfl, by simp, a.upd f1 f2, .of_same (same_upd nD)⟩
theorem LI.go {R : Int → Prop} {H0 H1 H2 : Hp} {h q D : Addr} {i : Nat} {ks : List Int} (g : LI R H0 H1 h q D i ks) (nD : H0 D = none) (D1 : D ≠ h) (D2 : D ≠ q) (a2 : HpAt H2 h q) (kp : Kpt h q H1 H2) (hi : i < 100) {c : Int} (hc : R c) :
    ∃ acc, H2 D = some (.lst acc) ∧ acc.length < sizeLine ∧ ∃ ks, LI R H0 (upd H2 D (.lst (acc ++ [V.int c]))) h q D (i + 1) ks := by
  have l := g.l
  refine ⟨_, kp _ _ g.e D1 D2, small1000 (by rw [List.length_map]; omega), ks ++ [c], ?_, by rw [List.length_append, l]; rfl, fun x hx => ?_, a2.upd D1 D2, (g.k.trans kp).at_new nD⟩
  · rw [upd_same]
    show some (HO.lst _) = some (HO.lst ((ks ++ [c]).map V.int))
    rw [List.map_append]; rfl
  · rcases List.mem_append.mp hx with z | z
    · exact g.r x z
    · rw [List.mem_singleton.mp z]; exact hc
/-! ### names -/
def letterC (i : Nat) : Nat := ([99, 101, 103, 104, 109, 113] : List Nat).getD i 0
def suff (d : Nat) : Str := (["", "b"] : List Str).getD d ""
def nmOf (i d : Nat) : Str := (⟨#[letterC i]⟩ : Str) ++ suff d
def nmB (s : Str) : Bool := decide (1 ≤ s.length) && (decide (s.length ≤ 6) && (s.cps.toList.all (fun c => ("abcdefghijklmnopqrstuvwxyz" : Str).cps.toList.contains c) && !inV (.str s) (wordsL.map V.str)))
theorem nm_of {s : Str} (h : nmB s = true) : NmOk s := by
  unfold nmB at h
  rw [Bool.and_eq_true, Bool.and_eq_true, Bool.and_eq_true] at h
  obtain ⟨h1, h2, h3, h4⟩ := h
  refine ⟨of_decide_eq_true h1, of_decide_eq_true h2, fun c hc => ?_, ?_⟩
  · have := List.all_eq_true.mp h3 c hc
    exact List.contains_iff_mem.mp this
  · simpa using h4
theorem nm_all : ∀ i : Fin 6, ∀ d : Fin 2, nmB (nmOf i d) = true := by decide +kernel
theorem nm_ok {i d : Nat} (hi : i < 6) (hd : d < 2) : NmOk (nmOf i d) := nm_of (nm_all ⟨i, hi⟩ ⟨d, hd⟩)
theorem nm_lt_all : ∀ i : Fin 5, ∀ d e : Fin 2, (nmOf i d).cps.toList < (nmOf (i + 1) e).cps.toList := by decide +kernel
theorem nm_lt {i d e : Nat} (hi : i < 5) (hd : d < 2) (he : e < 2) : (nmOf i d).cps.toList < (nmOf (i + 1) e).cps.toList := nm_lt_all ⟨i, hi⟩ ⟨d, hd⟩ ⟨e, he⟩
theorem at_letter : ∀ i : Fin 6, ("ceghmq" : Str).cps.toList[i.val]? = some (letterC i) := by decide +kernel
theorem suff_len : ∀ d : Fin 2, (suff d).length ≤ 5 := by decide +kernel
/-- unknowns around the values -/
structure Ul (xs : List Int) (ul : List Unk) : Prop where
  nm : ∀ i u, ul[i]? = some u → ∃ d : Nat, d < 2 ∧ u.1 = nmOf i d ∧ u.2.1 ≤ u.2.2
  en : ∀ (k : Nat) u x, ul[k]? = some u → xs[k]? = some x → u.2.1 ≤ x / 12 ∧ -(-x / 12) ≤ u.2.2
theorem Ul.nil {xs : List Int} : Ul xs [] := ⟨fun i u h => by simp at h, fun i u x h => by simp at h⟩
theorem Ul.app {xs : List Int} {ul : List Unk} {d : Nat} {lo hi x : Int} (h : Ul xs ul) (hd : d < 2) (hx : xs[ul.length]? = some x) (l1 : lo ≤ x / 12) (l2 : -(-x / 12) ≤ hi) : Ul xs (ul ++ [(nmOf ul.length d, lo, hi)]) := by
  have key : ∀ (i : Nat) u, (ul ++ [(nmOf ul.length d, lo, hi)])[i]? = some u → ul[i]? = some u ∨ (i = ul.length ∧ u = (nmOf ul.length d, lo, hi)) := fun i u e => by
    by_cases c : i < ul.length
    · rw [List.getElem?_append_left c] at e; exact .inl e
    · rw [List.getElem?_append_right (by omega)] at e
      by_cases z : i - ul.length = 0
      · rw [z] at e
        cases e
        exact .inr ⟨by omega, rfl⟩
      · obtain ⟨k, hk⟩ : ∃ k, i - ul.length = k + 1 := ⟨i - ul.length - 1, by omega⟩
        rw [hk] at e; simp at e
  refine ⟨fun i u e => ?_, fun i u y e hy => ?_⟩
  · rcases key i u e with z | ⟨rfl, rfl⟩
    · exact h.nm i u z
    · exact ⟨d, hd, rfl, by show lo ≤ hi; omega⟩
  · rcases key i u e with z | ⟨rfl, rfl⟩
    · exact h.en i u y z hy
    · rw [hx] at hy
      cases hy
      exact ⟨l1, l2⟩
theorem Ul.ok {xs : List Int} {ul : List Unk} (h : Ul xs ul) (l1 : 1 ≤ ul.length) (l6 : ul.length ≤ 6) : UnkOk ul := by
  refine ⟨l1, by omega, fun u hu => ?_, fun u hu => ?_, fun i u v hu hv => ?_⟩
  · obtain ⟨i, hi, e⟩ := List.getElem_of_mem hu
    obtain ⟨d, hd, e1, _⟩ := h.nm i u (by rw [List.getElem?_eq_getElem hi, e])
    rw [e1]; exact nm_ok (by omega) hd
  · obtain ⟨i, hi, e⟩ := List.getElem_of_mem hu
    obtain ⟨d, hd, _, e2⟩ := h.nm i u (by rw [List.getElem?_eq_getElem hi, e])
    exact e2
  · obtain ⟨d, hd, e1, _⟩ := h.nm i u hu
    obtain ⟨d', hd', e1', _⟩ := h.nm (i + 1) v hv
    rw [e1, e1']
    exact nm_lt (by have := (List.getElem?_eq_some_iff.mp hv).1; omega) hd hd'
structure LoopU (H0 H' : Hp) (h q L : Addr) (xs : List Int) (us : List V) (ul : List Unk) (i : Nat) : Prop where
  a : HpAt H' h q
  k : Kpt h q H0 H'
  e : H' L = some (.lst us)
  uv : UVs H' us ul
  u : Ul xs ul
  l : ul.length = i
theorem LoopU.to {H0 H1 H2 : Hp} {h q L : Addr} {xs : List Int} {us : List V} {ul : List Unk} {i : Nat} (g : LoopU H0 H1 h q L xs us ul i) (L1 : L ≠ h) (L2 : L ≠ q) (k : Kpt h q H1 H2) (a : HpAt H2 h q) : LoopU H0 H2 h q L xs us ul i :=
  ⟨a, g.k.trans k, k _ _ g.e L1 L2, g.uv.tk (TK.kp k g.a), g.u, g.l⟩
theorem LoopU.app {H0 H1 : Hp} {h q L t : Addr} {xs : List Int} {us : List V} {ul : List Unk} {i d : Nat} {lo hi x : Int} (g : LoopU H0 H1 h q L xs us ul i) (nL : H0 L = none) (L1 : L ≠ h) (L2 : L ≠ q) (et : H1 t = some (.tup [.str (nmOf i d), .int lo, .int hi])) (hd : d < 2) (hx : xs[i]? = some x) (l1 : lo ≤ x / 12) (l2 : -(-x / 12) ≤ hi) :
    LoopU H0 (upd H1 L (.lst (us ++ [.ref t]))) h q L xs (us ++ [.ref t]) (ul ++ [(nmOf i d, lo, hi)]) (i + 1) := by
  have tk : TK H1 (upd H1 L (.lst (us ++ [.ref t]))) := TK.put g.e
  have gl := g.l
  refine ⟨g.a.upd L1 L2, g.k.at_new nL, upd_same, (g.uv.tk tk).app ⟨t, rfl, tk _ _ et⟩, ?_, by rw [List.length_append, gl]; rfl⟩
  subst gl
  exact g.u.app hd hx l1 l2
theorem rsv_ws {H : Hp} {v : V} {rl : List Row} (h : RsV H v rl) : WsV H v (rl.map .sum) := by
  obtain ⟨p, us, e, hp, al⟩ := h
  exact ⟨p, us, e, hp, wvs_rows al⟩
/-- what the law carries along behind the turns -/
structure LD (C : Addr) (H : Hp) (h q x pu pr D G pt' : Addr) (sv : V) (ul : List Unk) (rl : List Row) (goal ts tt xs : List Int) : Prop where
  a : HpAt H h q
  tv : TaskV C H (.ref x) ul (rl.map .sum) goal
  sv : SV H sv (stF xs)
  us : UsV H (.ref pu) ul
  rv : RsV H (.ref pr) rl
  eX : H G = some (tL xs)
  eT : H D = some (tL ts)
  lv : LV H (.ref pt') tt
theorem LD.to {C : Addr} {H H' : Hp} {h q x pu pr D G pt' : Addr} {sv : V} {ul : List Unk} {rl : List Row} {goal ts tt xs : List Int} (d : LD C H h q x pu pr D G pt' sv ul rl goal ts tt xs) (D1 : D ≠ h) (D2 : D ≠ q) (G1 : G ≠ h) (G2 : G ≠ q) (k : Kpt h q H H') (a : HpAt H' h q) : LD C H' h q x pu pr D G pt' sv ul rl goal ts tt xs :=
  have tk := TK.kp k d.a
  ⟨a, Kpt_tv d.tv k d.a, d.sv.tk tk, d.us.tk tk, d.rv.tk tk, k _ _ d.eX G1 G2, k _ _ d.eT D1 D2, d.lv.tk tk⟩
theorem LD.same {C : Addr} {H H' : Hp} {h q x pu pr D G pt' : Addr} {sv : V} {ul : List Unk} {rl : List Row} {goal ts tt xs : List Int} (d : LD C H h q x pu pr D G pt' sv ul rl goal ts tt xs) (s : Same H H') : LD C H' h q x pu pr D G pt' sv ul rl goal ts tt xs :=
  ⟨d.a.same s, same_tv d.tv s, d.sv.same s, d.us.tk (.of s), d.rv.tk (.of s), s _ _ d.eX, s _ _ d.eT, d.lv.tk (.of s)⟩
def parts10 : List Int := [0, 1, 3, 4, 5, 6, 7, 8, 9, 11]
theorem parts_bd : ∀ c ∈ parts10, 0 ≤ c ∧ c ≤ 11 := by decide
abbrev sg (a b c d e f g h i j k l m n o p q r s t u v x y : Option V) : List (Option V) := [a, b, c, d, e, f, g, h, i, j, k, l, m, n, o, p, q, r, s, t, u, v, x, y]
section
variable {P : Program} {w : World} {K : PySem.W.Frag} {mg : Str → Option Value} {base : Heap} {aW aT : Addr} {es : Array DictEntry} {nn : Nat}
abbrev s_law : Stmt := topS 61
abbrev n_law : List Str := ["script", "deal", "many", "k", "hidden", "parts", "values", "start", "unknowns", "low", "high", "rows", "task", "turns", "bottom", "top", "due", "base", "above", "told", "wishes", "other", "value", "turn"]
theorem sc_law : FnScope n_law ["script"] (defScope s_law) := ⟨rfl, rfl, rfl, by decide +kernel, rfl, by decide +kernel, by decide +kernel⟩
def spLaw (K : PySem.W.Frag) : Sp := fun vs H Q _ => ∃ (a : Addr) (ns : List Int), vs = [.ref a] ∧ SqL K H a (ns.map V.int) ∧ ns.length ≤ 63 ∧ ∀ H', Q (.bl true) H'
structure LawC (P : Program) (w : World) (K : PySem.W.Frag) (mg : Str → Option Value) (base : Heap) (C : Addr) : Prop where
  draw : Cal P w K mg base 1 "_law_draw" (spHeap K) []
  any : Cal P w K mg base 1 "_law_any" spDraw []
  of_ : Cal P w K mg base 2 "_law_of" spPickL []
  low : Cal P w K mg base 1 "_law_low" spLow []
  row : Cal P w K mg base 3 "_law_row" spLRow []
  keeps : Cal P w K mg base 2 "_law_keeps" spKeeps []
  are : Cal P w K mg base 1 "_law_are_turns" spAre []
  fit : Cal P w K mg base 1 "_law_fit" spFit []
  some_ : Cal P w K mg base 2 "_law_some_fit" spSome []
  spoilt : Cal P w K mg base 3 "_law_spoilt" spSpoilt []
  right : CalG P w K mg base 4 "_law_right" (spRight C)
  best : CalG P w K mg base 5 "_law_best" (spLBest C)
  sharp : CalG P w K mg base 10 "_law_sharp" (spSharp C)
  mak : Mak P w K mg base 8 "Task" C (spTask C) []
  turns : Cal P w K mg base 2 "turns_of" (spTurns C) []
  bestT : Cal P w K mg base 4 "best_threshold" (spBest C) []
  turnsK : CalK P w K mg base 2 "turns_of" ["task"] id (spTurns C)
  ratK : CalK P w K mg base 2 "rounded_at" ["threshold", "turns", "start"] rv3 spRat
theorem ok_law {f C : Addr} {fd : FuncData} (F : Fun K "law" "law" s_law f fd) (T : Txt K mg w aW aT es nn) (cc : CC K C) (LC : LawC P w K mg base C) : FnG P w K mg base CX0 11 f fd ["script"] (spLaw K) := by
  obtain ⟨c_Ldraw, c_Lany, c_Lof, c_Llow, c_Lrow, c_Lkeeps, c_Lare_turns, c_Lfit, c_Lsome_fit, c_Lspoilt, c_Lright, c_Lbest, c_Lsharp, m_Task, c_turns_of, c_best_threshold, k_turns_of_task, k_rounded_at_threshold_turns_start⟩ := LC
  refine fun_okG F sc_law (fun vs H Q E h => ?_) (fun cdv A outer s0 H vs Q E hgd hr h => ?_)
  · obtain ⟨a, ns, rfl, _⟩ := h
    rfl
  · obtain ⟨a, ns, rfl, hS, hlen, fin⟩ := h
    refine ⟨_, (pss_cons (ps_set (i := 1) sc_law.nd rfl (.inr rfl) (pe_c c_Ldraw hr (by decide) (by rfl) (pa_cons (pv 0) (pa_cons pe_int pa_nil))))
      (pss_cons (ps_set (i := 2) sc_law.nd rfl (.inl rfl) (pe_op op_add pe_int (pe_c c_Lany hr (by decide) (by rfl) (pa_cons (pv 1) (pa_cons pe_int pa_nil)))))
      (pss_cons (ps_set (i := 4) sc_law.nd rfl (.inr rfl) (pe_lc (own := [("k", 3)]) rfl sc_law.nd (pi_range1 (by rfl) T.b_range (pa_cons (pv 2) pa_nil)) (blkOk_by (N := n_law) (sc := defScope s_law) (by decide +kernel)) (fun _ _ _ _ _ => (pg_name (i := 3) sc_law.nd rfl (.inl rfl))) (fun _ _ _ _ _ => pts_nil) (fun _ _ _ _ _ => (pe_c c_Lof hr (by decide) (by rfl) (pa_cons (pv 1) (pa_cons (pe_lst (pa_cons pe_int (pa_cons (pe_un un_neg pe_int) pa_nil))) pa_nil))))))
      (pss_cons (ps_set (i := 5) sc_law.nd rfl (.inr rfl) (pe_lc (own := [("k", 3)]) rfl sc_law.nd (pi_range1 (by rfl) T.b_range (pa_cons pe_int pa_nil)) (blkOk_by (N := n_law) (sc := defScope s_law) (by decide +kernel)) (fun _ _ _ _ _ => (pg_name (i := 3) sc_law.nd rfl (.inl rfl))) (fun _ _ _ _ _ => pts_nil) (fun _ _ _ _ _ => (pe_c c_Lof hr (by decide) (by rfl) (pa_cons (pv 1) (pa_cons (pe_lst (pa_cons pe_int (pa_cons pe_int (pa_cons pe_int (pa_cons pe_int (pa_cons pe_int (pa_cons pe_int (pa_cons pe_int (pa_cons pe_int (pa_cons pe_int (pa_cons pe_int pa_nil))))))))))) pa_nil))))))
      (pss_cons (ps_set (i := 6) sc_law.nd rfl (.inr rfl) (pe_lc (own := [("k", 3)]) rfl sc_law.nd (pi_range1 (by rfl) T.b_range (pa_cons (pv 2) pa_nil)) (blkOk_by (N := n_law) (sc := defScope s_law) (by decide +kernel)) (fun _ _ _ _ _ => (pg_name (i := 3) sc_law.nd rfl (.inl rfl))) (fun _ _ _ _ _ => pts_nil) (fun _ _ _ _ _ => (pe_op op_mul (pe_ix (r := rIxL K) ix_list (pv 4) (pv 3) (fun _ _ => rfl)) (pe_op op_add (pe_op op_mul pe_int (pe_op op_sub (pe_c c_Lany hr (by decide) (by rfl) (pa_cons (pv 1) (pa_cons pe_int pa_nil))) pe_int)) (pe_c c_Lof hr (by decide) (by rfl) (pa_cons (pv 1) (pa_cons (pv 5) pa_nil))))))))
      (pss_cut (ps_set (i := 7) sc_law.nd rfl (.inl rfl) (pe_callTy call_tuple_of (by rfl) T.b_tuple (by decide +kernel) (pa_cons (pe_lc (own := [("value", 22)]) rfl sc_law.nd (pi_list (pv 6)) (blkOk_by (N := n_law) (sc := defScope s_law) (by decide +kernel)) (fun _ _ _ _ _ => (pg_name (i := 22) sc_law.nd rfl (.inl rfl))) (fun _ _ _ _ _ => pts_nil) (fun _ _ _ _ _ => (pe_c c_Llow hr (by decide) (by rfl) (pa_cons (pv 22) (pa_cons pe_int pa_nil))))) pa_nil)))
      (pss_cons (ps_set (i := 8) sc_law.nd rfl (.inl rfl) (pe_lst pa_nil))
      (pss_cons (ps_for PassesOwn.never rfl (pi_range1 (by rfl) T.b_range (pa_cons (pv 2) pa_nil)) (pg_name (i := 3) sc_law.nd rfl (.inl rfl)) (pss_cons (ps_par (i := 9) (j := 10) (by rfl) sc_law.nd rfl rfl (by decide) rfl rfl (pa_cons (pe_op op_sub (pe_op op_fdiv (pe_ix ix_list (pv 6) (pv 3) (fun _ _ => rfl)) pe_int) (pe_c c_Lany hr (by decide) (by rfl) (pa_cons (pv 1) (pa_cons pe_int pa_nil)))) (pa_cons (pe_op op_add (pe_un un_neg (pe_op op_fdiv (pe_un un_neg (pe_ix ix_list (pv 6) (pv 3) (fun _ _ => rfl))) pe_int)) (pe_c c_Lany hr (by decide) (by rfl) (pa_cons (pv 1) (pa_cons pe_int pa_nil)))) pa_nil)) (by rfl))
        (pss_one (ps_expr (pe_bm PySem.F.plainAttrs_list PySem.F.slot_list_append PySem.F.type_list_append mt_append (pv 8) (pa_cons (pe_tup (pa_cons (pe_op op_add_str (pe_ix ix_str pe_str (pv 3) (fun _ _ => rfl)) (pe_c c_Lof hr (by decide) (by rfl) (pa_cons (pv 1) (pa_cons (pe_lst (pa_cons pe_str (pa_cons pe_str pa_nil))) pa_nil)))) (pa_cons (pv 9) (pa_cons (pv 10) pa_nil)))) pa_nil))))))
      (pss_cons (ps_set (i := 8) sc_law.nd rfl (.inl rfl) (pe_callTy call_tuple_of (by rfl) T.b_tuple (by decide +kernel) (pa_cons (pv 8) pa_nil)))
      (pss_cut (ps_set (i := 11) sc_law.nd rfl (.inl rfl) (pe_callTy call_tuple_of (by rfl) T.b_tuple (by decide +kernel) (pa_cons (pe_lc (own := [("turn", 23)]) rfl sc_law.nd (pi_range1 (by rfl) T.b_range (pa_cons (pe_c c_Lany hr (by decide) (by rfl) (pa_cons (pv 1) (pa_cons pe_int pa_nil))) pa_nil)) (blkOk_by (N := n_law) (sc := defScope s_law) (by decide +kernel)) (fun _ _ _ _ _ => (pg_name (i := 23) sc_law.nd rfl (.inl rfl))) (fun _ _ _ _ _ => pts_nil) (fun _ _ _ _ _ => (pe_c c_Lrow hr (by decide) (by rfl) (pa_cons (pv 1) (pa_cons (pv 4) (pa_cons (pv 6) pa_nil)))))) pa_nil)))
      (pss_cut (ps_set (i := 12) sc_law.nd rfl (.inl rfl) (pe_mk m_Task hr (by decide) (by rfl) (pa_cons (pv 8) (pa_cons (pv 11) (pa_cons (pe_callTy call_tuple_of (by rfl) T.b_tuple (by decide +kernel) (pa_cons (pe_lc (own := [("k", 3)]) rfl sc_law.nd (pi_range1 (by rfl) T.b_range (pa_cons (pv 2) pa_nil)) (blkOk_by (N := n_law) (sc := defScope s_law) (by decide +kernel)) (fun _ _ _ _ _ => (pg_name (i := 3) sc_law.nd rfl (.inl rfl))) (fun _ _ _ _ _ => pts_nil) (fun _ _ _ _ _ => (pe_op op_sub (pe_c c_Lany hr (by decide) (by rfl) (pa_cons (pv 1) (pa_cons pe_int pa_nil))) pe_int))) pa_nil)) pa_nil)))))
      (pss_cons (ps_set (i := 13) sc_law.nd rfl (.inl rfl) (pe_kw k_turns_of_task hr (by decide) (by rfl) (pk_cons (pv 12) pk_nil)))
      (pss_cons (ps_if (PW.pt (pw_or (pt_not (pt_val (pe_c c_Lare_turns hr (by decide) (by rfl) (pa_cons (pv 13) (pa_cons (pv 2) pa_nil))))) (pw_or1 (pt_not (pt_val (pe_c c_Lfit hr (by decide) (by rfl) (pa_cons (pv 11) (pa_cons (pv 13) pa_nil)))))))) (pss_one (ps_ret pe_bl)) pss_nil)
      (pss_cons (ps_if (PW.pt (pw_or (pt_not (pt_val (pe_cG hgd c_Lright hr (by decide) (by rfl) (pa_cons (pv 12) (pa_cons (pe_callTy call_tuple_of (by rfl) T.b_tuple (by decide +kernel) (pa_cons (pv 4) pa_nil)) (pa_cons (pv 7) (pa_cons (pv 6) pa_nil))))))) (pw_or1 (pt_not (pt_val (pe_cG hgd c_Lright hr (by decide) (by rfl) (pa_cons (pv 12) (pa_cons (pv 13) (pa_cons (pv 7) (pa_cons (pv 6) pa_nil)))))))))) (pss_one (ps_ret pe_bl)) pss_nil)
      (pss_cons (ps_if (PW.pt (pw_or (pt_not (pt_val (pe_cG hgd c_Lbest hr (by decide) (by rfl) (pa_cons (pv 12) (pa_cons (pv 13) (pa_cons (pv 7) (pa_cons (pv 6) pa_nil))))))) (pw_or1 (pt_not (pt_val (pe_cG hgd c_Lsharp hr (by decide) (by rfl) (pa_cons (pv 1) (pa_cons (pv 12) (pa_cons (pv 7) (pa_cons (pv 6) pa_nil)))))))))) (pss_one (ps_ret pe_bl)) pss_nil)
      (pss_cut (ps_set (i := 14) sc_law.nd rfl (.inl rfl) (pe_op op_add pe_int (pe_c c_Lany hr (by decide) (by rfl) (pa_cons (pv 1) (pa_cons pe_int pa_nil)))))
      (pss_cons (ps_set (i := 15) sc_law.nd rfl (.inl rfl) (pe_op op_add pe_int (pe_c c_Lany hr (by decide) (by rfl) (pa_cons (pv 1) (pa_cons (pv 14) pa_nil)))))
      (pss_cons (ps_set (i := 16) sc_law.nd rfl (.inl rfl) (pe_lst pa_nil))
      (pss_cons (ps_for PassesOwn.never rfl (pi_range1 (by rfl) T.b_range (pa_cons (pv 2) pa_nil)) (pg_name (i := 3) sc_law.nd rfl (.inl rfl)) (pss_cons (ps_set (i := 17) sc_law.nd rfl (.inl rfl) (pe_op op_fdiv (pe_op op_mul (pe_ix ix_list (pv 4) (pv 3) (fun _ _ => rfl)) (pe_ix ix_list (pv 6) (pv 3) (fun _ _ => rfl))) pe_int))
        (pss_cons (ps_set (i := 18) sc_law.nd rfl (.inl rfl) (pe_op op_sub (pe_op op_mul (pe_ix ix_list (pv 4) (pv 3) (fun _ _ => rfl)) (pe_ix ix_list (pv 6) (pv 3) (fun _ _ => rfl))) (pe_op op_mul pe_int (pv 17))))
        (pss_one (ps_expr (pe_bm PySem.F.plainAttrs_list PySem.F.slot_list_append PySem.F.type_list_append mt_append (pv 16) (pa_cons (pe_op op_mul (pe_ix ix_list (pv 4) (pv 3) (fun _ _ => rfl)) (pe_op op_add (pv 17) (pe_ifExp (pt_cmpR op_ge (pe_op op_mul (pv 18) (pv 14)) (pe_op op_mul pe_int (pv 15)) (nomark _)) pe_int pe_int))) pa_nil)))))))
      (pss_cons (ps_set (i := 19) sc_law.nd rfl (.inl rfl) (pe_kw k_rounded_at_threshold_turns_start hr (by decide) (by rfl) (pk_cons (pe_c c_Llow hr (by decide) (by rfl) (pa_cons (pv 15) (pa_cons (pv 14) pa_nil))) (pk_cons (pe_callTy call_tuple_of (by rfl) T.b_tuple (by decide +kernel) (pa_cons (pv 4) pa_nil)) (pk_cons (pv 7) pk_nil)))))
      (pss_cons (ps_if (PW.pt (pw_or (pt_cmpR op_ne (pe_callB (call_showN hgd hr.units) (by rfl) T.b_repr (by decide +kernel) (pa_cons (pv 19) pa_nil)) (pe_callB (call_showN hgd hr.units) (by rfl) T.b_repr (by decide +kernel) (pa_cons (pe_callTy call_tuple_of (by rfl) T.b_tuple (by decide +kernel) (pa_cons (pv 16) pa_nil)) pa_nil)) (nomark _)) (pw_or1 (pt_not (pt_val (pe_c c_Lkeeps hr (by decide) (by rfl) (pa_cons (pv 8) (pa_cons (pv 11) (pa_cons (pv 19) pa_nil))))))))) (pss_one (ps_ret pe_bl)) pss_nil)
      (pss_cut (ps_set (i := 20) sc_law.nd rfl (.inl rfl) (pe_c c_Lspoilt hr (by decide) (by rfl) (pa_cons (pv 1) (pa_cons (pv 2) (pa_cons (pv 11) pa_nil)))))
      (pss_cons (ps_set (i := 21) sc_law.nd rfl (.inl rfl) (pe_mk m_Task hr (by decide) (by rfl) (pa_cons (pv 8) (pa_cons (pv 20) (pa_cons (pe_fld (pv 12) (by rfl)) pa_nil)))))
      (pss_cons (ps_set (i := 19) sc_law.nd rfl (.inl rfl) (pe_c c_turns_of hr (by decide) (by rfl) (pa_cons (pv 21) pa_nil)))
      (pss_cons (ps_if (pt_not (pt_val (pe_c c_Lsome_fit hr (by decide) (by rfl) (pa_cons (pv 20) (pa_cons (pv 2) pa_nil))))) (pss_one (ps_ret (pe_and (pe_cmpR op_isN (pv 19) pe_non (nomark _)) (pe_one (pe_cmpR op_isN (pe_c c_best_threshold hr (by decide) (by rfl) (pa_cons (pv 21) (pa_cons (pv 7) pa_nil))) pe_non (nomark _)))))) pss_nil)
      (pss_one (ps_ret (pe_and (pe_c c_Lare_turns hr (by decide) (by rfl) (pa_cons (pv 19) (pa_cons (pv 2) pa_nil))) (pe_and (pe_c c_Lfit hr (by decide) (by rfl) (pa_cons (pv 20) (pa_cons (pv 19) pa_nil))) (pe_one (pe_cmpR op_eq (pe_callB (call_showN hgd hr.units) (by rfl) T.b_repr (by decide +kernel) (pa_cons (pe_c c_turns_of hr (by decide) (by rfl) (pa_cons (pv 12) pa_nil)) pa_nil)) (pe_callB (call_showN hgd hr.units) (by rfl) T.b_repr (by decide +kernel) (pa_cons (pv 13) pa_nil)) (nomark _)))))))))))))))))))))))))))))))), ?_⟩
    refine ⟨_, rfl, a, ns, rfl, hS, hlen, fun H1 h q s1 nh nq a1 => ?_⟩
    refine ⟨_, rfl, h, q, 6, rfl, a1, by decide, by decide, fun d H2 d0 d1 a2 kp2 => ⟨_, _, rfl, rfl, ?_⟩⟩
    obtain ⟨n, hn, n1, n6⟩ : ∃ n : Nat, 1 + d = (n : Int) ∧ 1 ≤ n ∧ n ≤ 6 := ⟨(1 + d).toNat, by omega, by omega, by omega⟩
    rw [show (fun i j => V.int (i + j)) (1 : Int) d = V.int (n : Int) from congrArg V.int hn]
    -- the hidden turns
    refine ⟨_, rfl, (n : Int), rfl, by omega, by omega, fun D nD => ?_⟩
    obtain ⟨D1, D2⟩ := a2.fresh nD
    refine lc_range (lo := 0) (n := ((n : Nat) : Int).toNat) (fun i H' => ∃ ks, LI (fun c => c = 1 ∨ c = -1) H2 H' h q D i ks) ⟨[], LI.nil a2 nD⟩ (fun i H3 hi hI => ?_) (fun H3 hI => ?_)
    · obtain ⟨ks, g⟩ := hI
      rw [Int.toNat_natCast] at hi
      refine ⟨rfl, _, rfl, _, rfl, len2, fun p1 np1 => ?_⟩
      have kq := same_upd (o := .lst [.int 1, .int (-1)]) np1
      obtain ⟨f1, f2⟩ := g.a.fresh np1
      refine ⟨h, q, p1, _, rfl, g.a.same kq, upd_same, f1, f2, by simp, by show 2 ≤ 1000; decide, fun v H6 mv a6 kp6 => ?_⟩
      obtain ⟨c, rfl, hc⟩ : ∃ c : Int, v = V.int c ∧ (c = 1 ∨ c = -1) := by
        rcases List.mem_cons.mp mv with e | e
        · exact ⟨1, e, .inl rfl⟩
        · exact ⟨-1, List.mem_singleton.mp e, .inr rfl⟩
      exact g.go nD D1 D2 a6 ((Kpt.of_same (h := h) (q := q) kq).trans kp6) (by omega) (c := c) hc
    rw [Int.toNat_natCast] at hI
    obtain ⟨ts, gT⟩ := hI
    have kp3 : Kpt h q H1 H3 := kp2.trans gT.k
    -- the parts
    refine ⟨3, rfl, by decide, by decide, fun E nE => ?_⟩
    obtain ⟨E1, E2⟩ := gT.a.fresh nE
    refine lc_range (lo := 0) (n := (3 : Int).toNat) (fun i H' => ∃ ks, LI (fun c => 0 ≤ c ∧ c ≤ 11) H3 H' h q E i ks) ⟨[], LI.nil gT.a nE⟩ (fun i H4 hi hI => ?_) (fun H4 hI => ?_)
    · obtain ⟨ks, g⟩ := hI
      refine ⟨rfl, _, rfl, (by rw [sizeLine_eq]; exact (by decide : 10 ≤ 16777216)), fun p1 np1 => ?_⟩
      have kq := same_upd (o := .lst [.int 0, .int 1, .int 3, .int 4, .int 5, .int 6, .int 7, .int 8, .int 9, .int 11]) np1
      obtain ⟨f1, f2⟩ := g.a.fresh np1
      refine ⟨h, q, p1, _, rfl, g.a.same kq, upd_same, f1, f2, by simp, by show 10 ≤ 1000; decide, fun v H6 mv a6 kp6 => ?_⟩
      obtain ⟨c, rfl, hc⟩ : ∃ c : Int, v = V.int c ∧ (0 ≤ c ∧ c ≤ 11) := by
        obtain ⟨c, hc, e⟩ := List.mem_map.mp (show v ∈ parts10.map V.int from mv)
        exact ⟨c, e.symm, parts_bd c hc⟩
      exact g.go nE E1 E2 a6 ((Kpt.of_same (h := h) (q := q) kq).trans kp6) (by have : i < 3 := hi; omega) (c := c) hc
    obtain ⟨pts, gP⟩ := hI
    have lP : pts.length = 3 := gP.l
    have eT4 : H4 D = some (tL ts) := gP.k _ _ gT.e D1 D2
    have lT := gT.l
    have pm : Pm ts := gT.r
    -- the values
    refine ⟨_, rfl, (n : Int), rfl, by omega, by omega, fun G nG => ?_⟩
    obtain ⟨G1, G2⟩ := gP.a.fresh nG
    refine lc_range (lo := 0) (n := ((n : Nat) : Int).toNat) (fun i H' => ∃ ks, LI (fun c => c.natAbs ≤ 59) H4 H' h q G i ks) ⟨[], LI.nil gP.a nG⟩ (fun i H5 hi hI => ?_) (fun H5 hI => ?_)
    · obtain ⟨ks, g⟩ := hI
      rw [Int.toNat_natCast] at hi
      rw [show ((0 : Int) + (i : Nat)) = (i : Int) by omega]
      have ht : ts[i]? = some (ts[i]'(by omega)) := List.getElem?_eq_getElem (by omega)
      have hpm := pm _ (List.mem_of_getElem? ht)
      generalize ts[i]'(by omega) = t at *
      refine ⟨rfl, _, rfl, _, rfl, D, _, _, .int t, rfl, rfl, sq_lst (g.k _ _ eT4 D1 D2), atI_nat (by rw [List.getElem?_map, ht]; rfl), ?_⟩
      refine ⟨_, rfl, h, q, 9, rfl, g.a, by decide, by decide, fun x H6 x0 x1 a6 kp6 => ⟨_, _, rfl, rfl, _, _, rfl, rfl, .inl ⟨by decide, by omega⟩, ?_⟩⟩
      have eP6 := (g.k.trans kp6) _ _ gP.e E1 E2
      refine ⟨_, rfl, _, rfl, h, q, E, _, rfl, a6, eP6, E1, E2, (by intro z; have := congrArg List.length z; rw [List.length_map, lP] at this; cases this), by rw [List.length_map, lP]; decide, fun v H7 mv a7 kp7 => ?_⟩
      obtain ⟨p, mp, rfl⟩ := int_of mv
      have bp := gP.r p mp
      refine ⟨_, _, rfl, rfl, _, _, rfl, rfl, .inl ⟨by omega, by omega⟩, ?_⟩
      exact g.go nG G1 G2 a7 (kp6.trans kp7) (by omega) (c := t * (12 * (x - 4) + p)) (by rcases hpm with rfl | rfl <;> omega)
    rw [Int.toNat_natCast] at hI
    obtain ⟨xs, gX⟩ := hI
    have lX := gX.l
    have bX : ∀ x ∈ xs, x.natAbs ≤ 1000 := fun x hx => Nat.le_trans (gX.r x hx) (by decide)
    have eT5 := gX.k _ _ eT4 D1 D2
    have nDG : ∀ {H' : Hp}, True := trivial
    -- the start
    refine ⟨fun σ H' => ∃ sv y22, σ = sg (some (.ref a)) (some (.ref h)) (some (.int (n : Nat))) none (some (.ref D)) (some (.ref E)) (some (.ref G)) (some sv) none none none none none none none none none none none none none none y22 none ∧ Same H5 H' ∧ SV H' sv (stF xs), ?_, fun σ H6 hM => ?_⟩
    · refine ⟨_, rfl, G, rfl, ⟨_, sq_lst gX.e⟩, fun B nB => ?_⟩
      refine lc_list (K := K) (a := G) (xs := xs.map V.int) (fun i H' => ∃ us, H' B = some (.lst us) ∧ All2 (FV H') us (stF (xs.take i)) ∧ Same H5 H') ⟨[], upd_same, .nil, same_upd nB⟩ (fun i H' _ hh => by obtain ⟨_, _, _, s⟩ := hh; exact sq_lst (s _ _ gX.e)) ?_ ?_
      · rintro i v H6 hv ⟨us, e6, al, s6⟩
        obtain ⟨x, hx, rfl⟩ := get_int hv
        have li := (List.getElem?_eq_some_iff.mp hx).1
        refine ⟨rfl, _, rfl, _, _, rfl, by decide, by decide, fun H7 p s7 hp => ?_⟩
        have la := al.len
        have ls : (stF (xs.take i)).length = i := by unfold stF; rw [List.length_map, List.length_take]; omega
        have tk7 := (TK.of s7).trans (TK.put (o := .lst (us ++ [.ref p])) (s7 _ _ e6))
        refine ⟨us, s7 _ _ e6, small1000 (by omega), us ++ [.ref p], upd_same, ?_, same_at (s6.trans s7) nB⟩
        have e8 : stF (xs.take (i + 1)) = stF (xs.take i) ++ [lowF x 12] := by unfold stF; rw [take_one hx, List.map_append]; rfl
        rw [e8]
        exact (al.mono fun v f k => k.tk tk7).app ⟨p, rfl, TK.put (s7 _ _ e6) _ _ hp⟩
      · rintro H6 ⟨us, e6, al, s6⟩
        rw [List.length_map, List.take_length] at al
        refine ⟨B, _, rfl, .inl ⟨sq_lst e6, fun p np => ?_⟩⟩
        have k := same_upd (o := .tup us) np
        exact ⟨.ref p, _, rfl, s6.trans k, p, us, rfl, upd_same, al.mono fun v f g => g.tk (.of k)⟩
    obtain ⟨sv, y22, rfl, s6, sv6⟩ := hM
    have a6 := gX.a.same s6
    have eX6 := s6 _ _ gX.e
    have eT6 := s6 _ _ eT5
    -- the unknowns
    refine ⟨nil_ok, fun U0 nU0 => ?_⟩
    obtain ⟨U1, U2⟩ := a6.fresh nU0
    have g0 : LoopU H6 (upd H6 U0 (.lst [])) h q U0 xs [] [] 0 := ⟨a6.upd U1 U2, .of_same (same_upd nU0), upd_same, .nil, .nil, rfl⟩
    refine ⟨_, rfl, (n : Int), rfl, by omega, by omega, for_range (lo := 0) (n := ((n : Nat) : Int).toNat) (fun i σ H' => ∃ y3 y9 y10 us ul, σ = sg (some (.ref a)) (some (.ref h)) (some (.int (n : Nat))) y3 (some (.ref D)) (some (.ref E)) (some (.ref G)) (some sv) (some (.ref U0)) y9 y10 none none none none none none none none none none none y22 none ∧ LoopU H6 H' h q U0 xs us ul i)
      ⟨_, _, _, _, _, rfl, g0⟩ (fun i σ H7 hi hI => ?_) (fun σ H7 hI => ?_)⟩
    · obtain ⟨y3, y9, y10, us, ul, rfl, g⟩ := hI
      rw [Int.toNat_natCast] at hi
      rw [show ((0 : Int) + (i : Nat)) = (i : Int) by omega]
      have hx : xs[i]? = some (xs[i]'(by omega)) := List.getElem?_eq_getElem (by omega)
      have bx := bX _ (List.mem_of_getElem? hx)
      generalize xs[i]'(by omega) = x at *
      refine ⟨_, rfl, _, rfl, G, _, _, .int x, rfl, rfl, sq_lst (g.k _ _ eX6 G1 G2), atI_nat (by rw [List.getElem?_map, hx]; rfl), _, _, rfl, rfl, ⟨by decide, by decide⟩, ?_⟩
      refine ⟨_, rfl, h, q, 3, rfl, g.a, by decide, by decide, fun x1 H8 x10 x11 a8 kp8 => ⟨_, _, rfl, rfl, ?_⟩⟩
      have g := g.to U1 U2 kp8 a8
      refine ⟨_, rfl, _, rfl, G, _, _, .int x, rfl, rfl, sq_lst (g.k _ _ eX6 G1 G2), atI_nat (by rw [List.getElem?_map, hx]; rfl), _, rfl, _, _, rfl, rfl, ⟨by decide, by decide⟩, _, rfl, ?_⟩
      refine ⟨_, rfl, h, q, 3, rfl, g.a, by decide, by decide, fun x2 H9 x20 x21 a9 kp9 => ⟨_, _, rfl, rfl, _, _, rfl, ?_⟩⟩
      have g := g.to U1 U2 kp9 a9
      show tSeq _ _ _ (((_ : L2.St).set 9 (some (.int (x / 12 - x1)))).set 10 (some (.int (-((-x) / 12) + x2)))) _
      have le1 : x / 12 - x1 ≤ x / 12 := by omega
      have le2 : -((-x) / 12) ≤ -((-x) / 12) + x2 := by omega
      generalize x / 12 - x1 = low at *
      generalize -((-x) / 12) + x2 = high at *
      refine ⟨_, rfl, .inl ⟨rfl, _, sq_lst g.e⟩, _, rfl, ("ceghmq" : Str), (i : Int), letterC i, rfl, rfl, by decide, atI_nat (at_letter ⟨i, by omega⟩), ?_⟩
      refine ⟨_, rfl, len2, fun p np => ?_⟩
      have k1 := same_upd (o := .lst [.str "", .str "b"]) np
      obtain ⟨f1, f2⟩ := g.a.fresh np
      have g := g.to U1 U2 (.of_same k1) (g.a.same k1)
      refine ⟨h, q, p, _, rfl, g.a, upd_same, f1, f2, by simp, by show 2 ≤ 1000; decide, fun v10 H10 m10 a10 kp10 => ?_⟩
      have g := g.to U1 U2 kp10 a10
      obtain ⟨e, he, rfl⟩ : ∃ e : Nat, e < 2 ∧ v10 = V.str (suff e) := by
        rcases List.mem_cons.mp m10 with z | z
        · exact ⟨0, by decide, z⟩
        · exact ⟨1, by decide, List.mem_singleton.mp z⟩
      refine ⟨_, _, rfl, rfl, ?_, ?_⟩
      · have := suff_len ⟨e, he⟩
        rw [sizeLine_eq]
        show 1 + (suff e).length ≤ _
        have e2 : (suff (⟨e, he⟩ : Fin 2).val) = suff e := rfl
        rw [e2] at this
        omega
      rw [show (⟨#[letterC i]⟩ : Str) ++ suff e = nmOf i e from rfl]
      refine ⟨_, rfl, _, rfl, len3, fun t nt => ?_⟩
      have kt := same_upd (o := .tup [.str (nmOf i e), .int low, .int high]) nt
      have g := g.to U1 U2 (.of_same kt) (g.a.same kt)
      have et : upd H10 t (.tup [.str (nmOf i e), .int low, .int high]) t = some (.tup [.str (nmOf i e), .int low, .int high]) := upd_same
      generalize upd H10 t (.tup [.str (nmOf i e), .int low, .int high]) = H11 at *
      have lus := g.uv.len
      have lul := g.l
      exact ⟨U0, _, _, rfl, rfl, g.e, small1000 (by omega), _, _, _, _, _, rfl, g.app nU0 U1 U2 et he hx le1 le2⟩
    rw [Int.toNat_natCast] at hI
    obtain ⟨y3, y9, y10, us, ul, rfl, g⟩ := hI
    have lus := g.uv.len
    have lul := g.l
    have uok : UnkOk ul := g.u.ok (by omega) (by omega)
    refine ⟨_, rfl, U0, us, rfl, .inl ⟨sq_lst g.e, fun pu npu => ?_⟩⟩
    have k8 := same_upd (o := .tup us) npu
    have a8 := g.a.same k8
    have eX8 := k8 _ _ (g.k _ _ eX6 G1 G2)
    have eT8 := k8 _ _ (g.k _ _ eT6 D1 D2)
    have tk68 := (TK.kp g.k a6).trans (.of k8)
    have sv8 := sv6.tk tk68
    have uv8 : UsV (upd H7 pu (.tup us)) (.ref pu) ul := ⟨pu, us, rfl, upd_same, g.uv.same k8⟩
    generalize upd H7 pu (.tup us) = H8 at *
    -- the rows
    refine ⟨fun σ H' => ∃ pr rl y23, σ = sg (some (.ref a)) (some (.ref h)) (some (.int (n : Nat))) y3 (some (.ref D)) (some (.ref E)) (some (.ref G)) (some sv) (some (.ref pu)) y9 y10 (some (.ref pr)) none none none none none none none none none none y22 y23 ∧ RsV H' (.ref pr) rl ∧ (∀ r ∈ rl, GoodR ts xs r) ∧ rl.length ≤ 7 ∧ HpAt H' h q ∧ Kpt h q H8 H', ?_, fun σ H9 hM => ?_⟩
    · refine ⟨_, rfl, h, q, 8, rfl, a8, by decide, by decide, fun m H9 m0 m1 a9 kp9 => ⟨m, rfl, by omega, by omega, fun R nR => ?_⟩⟩
      obtain ⟨R1, R2⟩ := a9.fresh nR
      refine lc_range (lo := 0) (n := m.toNat) (fun i H' => ∃ us rl, H' R = some (.lst us) ∧ All2 (RV H') us rl ∧ (∀ r ∈ rl, GoodR ts xs r) ∧ rl.length = i ∧ HpAt H' h q ∧ Kpt h q H9 H') ⟨[], [], upd_same, .nil, by simp, rfl, a9.upd R1 R2, .of_same (same_upd nR)⟩ (fun i H10 hi hI => ?_) (fun H10 hI => ?_)
      · obtain ⟨vs, rl, e10, al, gd, lr, a10, kp10⟩ := hI
        have k810 := kp9.trans kp10
        refine ⟨rfl, _, rfl, _, rfl, _, rfl, h, q, D, G, ts, xs, rfl, a10, k810 _ _ eT8 D1 D2, k810 _ _ eX8 G1 G2, D1, D2, G1, G2, by omega, by omega, by omega, pm, fun H11 p r rv gr a11 kp11 => ?_⟩
        have e11 := kp11 _ _ e10 R1 R2
        have tk11 := (TK.kp kp11 a10).trans (TK.put (o := .lst (vs ++ [.ref p])) e11)
        have la := al.len
        refine ⟨vs, e11, small1000 (by omega), vs ++ [.ref p], rl ++ [r], upd_same, (al.mono fun v x k => k.tk tk11).app (rv.tk (TK.put e11)), fun r' hr' => ?_, by rw [List.length_append, lr]; rfl, a11.upd R1 R2, (kp10.trans kp11).at_new nR⟩
        rcases List.mem_append.mp hr' with z | z
        · exact gd r' z
        · rw [List.mem_singleton.mp z]; exact gr
      · obtain ⟨vs, rl, e10, al, gd, lr, a10, kp10⟩ := hI
        refine ⟨R, _, rfl, .inl ⟨sq_lst e10, fun pr npr => ?_⟩⟩
        have k1 := same_upd (o := .tup vs) npr
        exact ⟨pr, rl, _, rfl, ⟨pr, vs, rfl, upd_same, al.mono fun v x k => k.tk (.of k1)⟩, gd, by omega, a10.same k1, (kp9.trans kp10).trans (.of_same k1)⟩
    obtain ⟨pr, rl, y23, rfl, rv9, gr, lr, a9, kp9⟩ := hM
    have tk9 := TK.kp kp9 a8
    have sv9 := sv8.tk tk9
    have uv9 := uv8.tk tk9
    have eX9 := kp9 _ _ eX8 G1 G2
    have eT9 := kp9 _ _ eT8 D1 D2
    have W : Wnt ul rl xs := ⟨by omega, by omega, by omega, bX, lr, fun r hr => ⟨by have := (gr r hr).len; omega, (gr r hr).sm, (gr r hr).ge, (gr r hr).eq⟩, g.u.en⟩
    have rwo : ∀ r ∈ rl, RowOk ul.length r := fun r hr => ⟨by have := (gr r hr).len; omega, (gr r hr).nz, fun c hc => by have := (gr r hr).sm c hc; omega⟩
    have rok : ∀ r, Wish.sum r ∈ rl.map Wish.sum → r.am.length = ul.length ∧ Sm 1000 r.am := fun r hr => by
      obtain ⟨r', h1, h2⟩ := List.mem_map.mp hr
      cases h2
      exact ⟨(W.rs r h1).1, fun c hc => Nat.le_trans ((W.rs r h1).2.1 c hc) (by decide)⟩
    have fitT : (rl.map Wish.sum).all (fitW ts) = true := List.all_eq_true.mpr fun z hz => by
      obtain ⟨r, hr, rfl⟩ := List.mem_map.mp hz
      exact (gr r hr).fit
    obtain ⟨tt, eTT⟩ := turnsF_some rok (show ts.length = ul.length by omega) pm fitT
    -- the task
    refine ⟨fun σ H' => ∃ x goal, σ = sg (some (.ref a)) (some (.ref h)) (some (.int (n : Nat))) y3 (some (.ref D)) (some (.ref E)) (some (.ref G)) (some sv) (some (.ref pu)) y9 y10 (some (.ref pr)) (some (.ref x)) none none none none none none none none none y22 y23 ∧ TaskV C H' (.ref x) ul (rl.map .sum) goal ∧ goal.length = ul.length ∧ Sm 1000 goal ∧ HpAt H' h q ∧ Kpt h q H9 H', ?_, fun σ H10 hM => ?_⟩
    · refine ⟨_, rfl, _, rfl, _, rfl, (n : Int), rfl, by omega, by omega, fun J nJ => ?_⟩
      obtain ⟨J1, J2⟩ := a9.fresh nJ
      refine lc_range (lo := 0) (n := ((n : Nat) : Int).toNat) (fun i H' => ∃ ks, LI (fun c => c.natAbs ≤ 1000) H9 H' h q J i ks) ⟨[], LI.nil a9 nJ⟩ (fun i H10 hi hI => ?_) (fun HA hI => ?_)
      · obtain ⟨ks, g⟩ := hI
        rw [Int.toNat_natCast] at hi
        refine ⟨rfl, _, rfl, h, q, 9, rfl, g.a, by decide, by decide, fun x H11 x0 x1 a11 kp11 => ⟨_, _, rfl, rfl, ?_⟩⟩
        exact g.go nJ J1 J2 a11 kp11 (by omega) (c := x - 4) (by omega)
      rw [Int.toNat_natCast] at hI
      obtain ⟨goal, gJ⟩ := hI
      have lJ := gJ.l
      have tkA := TK.kp gJ.k a9
      have rvA := rv9.tk tkA
      have uvA := uv9.tk tkA
      obtain ⟨pr', rus, e1, hpr, al⟩ := rvA
      cases e1
      obtain ⟨pu', uus, e2, hpu, ual⟩ := uvA
      cases e2
      refine ⟨J, _, rfl, .inl ⟨sq_lst gJ.e, fun pn npn => fun xn dn nx ndx nxd => ?_⟩⟩
      have y5' := same_upd (o := .tup (goal.map V.int)) npn
      have hpn : upd HA pn (.tup (goal.map V.int)) pn = some (tI goal) := upd_same
      generalize upd HA pn (.tup (goal.map V.int)) = HB at *
      have y6' := same_upd (o := .own xn) ndx
      have nx6 : upd HB dn (.own xn) xn = none := by rw [upd_ne nxd.symm]; exact nx
      have y7 := y6'.trans (same_upd (o := .ins C dn []) nx6)
      have z7 : upd (upd HB dn (.own xn)) xn (.ins C dn []) xn = some (.ins C dn []) := upd_same
      generalize upd (upd HB dn (.own xn)) xn (.ins C dn []) = HC at *
      have sAC := y5'.trans y7
      refine ⟨xn, dn, _, _, pn, _, _, ul, rl.map .sum, goal, rfl, z7, sAC _ _ hpu, ual.same sAC, sAC _ _ hpr, wvs_rows (al.mono fun v r k => k.same sAC), y7 _ _ hpn, uok, fun z hz => by obtain ⟨r, hr, rfl⟩ := List.mem_map.mp hz; exact ⟨rwo r hr, by omega⟩, by omega, fun HD sD => ?_⟩
      refine ⟨rfl, xn, goal, rfl, ?_, by omega, gJ.r, ?_, ?_⟩
      all_goals
        have sAE : Same HA (upd HD xn (.ins C dn [("unknowns", .ref pu), ("wishes", .ref pr), ("goal", .ref pn)])) := same_at (sAC.trans sD) (y5'.free nx)
      · have hxE : upd HD xn (.ins C dn [("unknowns", .ref pu), ("wishes", .ref pr), ("goal", .ref pn)]) xn = some (.ins C dn [("unknowns", .ref pu), ("wishes", .ref pr), ("goal", .ref pn)]) := upd_same
        have sBE : Same HB (upd HD xn (.ins C dn [("unknowns", .ref pu), ("wishes", .ref pr), ("goal", .ref pn)])) := same_at (y7.trans sD) nx
        exact ⟨xn, dn, pu, pr, pn, uus, rus, rfl, hxE, sAE _ _ hpu, ual.same sAE, sAE _ _ hpr, wvs_rows (al.mono fun v r k => k.same sAE), sBE _ _ hpn⟩
      · exact gJ.a.same sAE
      · exact gJ.k.trans (.of_same sAE)
    obtain ⟨x, goal, rfl, tv10, lg, sg10, a10, kp10⟩ := hM
    have tk10 := TK.kp kp10 a9
    have sv10 := sv9.tk tk10
    have uv10 := uv9.tk tk10
    have rv10 := rv9.tk tk10
    have eX10 := kp10 _ _ eX9 G1 G2
    have eT10 := kp10 _ _ eT9 D1 D2
    have ltt := turnsF_len eTT
    have pmt := turnsF_pm rok eTT
    have fitTT := turnsF_fit rok eTT
    -- the turns
    refine ⟨_, rfl, .ref x, ul, rl.map .sum, goal, rfl, tv10, by rw [List.length_map]; omega, by omega, rok, fun H6 s6 e => (by rw [eTT] at e; cases e), fun H11 pt' tt' s11 e ept => ?_⟩
    obtain rfl : tt = tt' := Option.some.inj (eTT.symm.trans e)
    have hnn : (n : Int) = ((tt.length : Nat) : Int) := by omega
    have lvt : LV H11 (.ref pt') tt := ⟨pt', rfl, ept⟩
    have d11 : LD C H11 h q x pu pr D G pt' sv ul rl goal ts tt xs := ⟨a10.same s11, same_tv tv10 s11, sv10.same s11, uv10.tk (.of s11), rv10.tk (.of s11), s11 _ _ eX10, s11 _ _ eT10, lvt⟩
    refine ⟨_, rfl, _, rfl, .ref pt', tt, congrArg (fun z => [V.ref pt', V.int z]) hnn, lvt, by omega, pmt, fun H12 s12 => ⟨true, rfl, iteF ?_⟩⟩
    have d12 := d11.same s12
    refine ⟨_, rfl, _, rfl, .ref pr, .ref pt', rl.map .sum, tt, rfl, rsv_ws d12.rv, ⟨pt', rfl, .inr (s12 _ _ ept)⟩, pmt, by omega, fun r hr => by rw [ltt]; exact rok r hr, fun H13 s13 => ⟨true, congrArg V.bl fitTT, iteF ?_⟩⟩
    have d13 := d12.same s13
    -- right at all thresholds
    refine ⟨_, rfl, _, rfl, D, _, rfl, .inl ⟨sq_lst d13.eT, fun ph nph => ?_⟩⟩
    have sh := same_upd (o := .tup (ts.map V.int)) nph
    have d14 := d13.same sh
    have eph : upd H13 ph (.tup (ts.map V.int)) ph = some (tI ts) := upd_same
    generalize upd H13 ph (.tup (ts.map V.int)) = H14 at *
    refine ⟨_, rfl, _, rfl, .ref x, .ref ph, sv, G, ul, rl, goal, ts, xs, rfl, d14.tv, ⟨ph, rfl, eph⟩, d14.sv, d14.eX, W, by omega, pm, fun r hr => (gr r hr).fit, fun H15 s15 => ⟨true, rfl, iteF ?_⟩⟩
    have d15 := d14.same s15
    refine ⟨_, rfl, _, rfl, _, rfl, _, rfl, .ref x, .ref pt', sv, G, ul, rl, goal, tt, xs, rfl, d15.tv, d15.lv, d15.sv, d15.eX, W, ltt, pmt, fun r hr => List.all_eq_true.mp fitTT (.sum r) (List.mem_map.mpr ⟨r, hr, rfl⟩), fun H16 s16 => ⟨true, rfl, iteF ?_⟩⟩
    have d16 := d15.same s16
    -- the best ones
    refine ⟨_, rfl, _, rfl, _, rfl, _, rfl, .ref x, .ref pt', sv, G, ul, rl, goal, tt, xs, rfl, d16.tv, d16.lv, d16.sv, d16.eX, W, lg, sg10, eTT, fun H17 s17 => ⟨true, rfl, iteF ?_⟩⟩
    have d17 := d16.same s17
    refine ⟨_, rfl, _, rfl, _, rfl, _, rfl, h, q, .ref x, sv, G, ul, rl, goal, tt, xs, rfl, d17.a, d17.tv, d17.sv, d17.eX, G1, G2, W, uok, rwo, eTT, fun H18 a18 kp18 => ⟨true, rfl, iteF ?_⟩⟩
    have d18 := d17.to D1 D2 G1 G2 kp18 a18
    -- a drawn threshold
    refine ⟨fun σ H' => ∃ bt, σ = sg (some (.ref a)) (some (.ref h)) (some (.int (n : Nat))) y3 (some (.ref D)) (some (.ref E)) (some (.ref G)) (some sv) (some (.ref pu)) y9 y10 (some (.ref pr)) (some (.ref x)) (some (.ref pt')) (some (.int bt)) none none none none none none none y22 y23 ∧ LD C H' h q x pu pr D G pt' sv ul rl goal ts tt xs ∧ 1 ≤ bt ∧ bt ≤ 30, ?_, fun σ H19 hM => ?_⟩
    · exact ⟨_, rfl, h, q, 30, rfl, d18.a, by decide, by decide, fun b H19 b0 b1 a19 kp19 => ⟨_, _, rfl, rfl, _, rfl, d18.to D1 D2 G1 G2 kp19 a19, by omega, by omega⟩⟩
    obtain ⟨bt, rfl, d19, bt1, bt30⟩ := hM
    refine ⟨_, rfl, _, rfl, h, q, bt, rfl, d19.a, by omega, by omega, fun t0 H20 t00 t01 a20 kp20 => ⟨_, _, rfl, rfl, ?_⟩⟩
    have d20 := d19.to D1 D2 G1 G2 kp20 a20
    obtain ⟨tp, etp⟩ : ∃ tp, tp = 1 + t0 := ⟨_, rfl⟩
    rw [show (fun i j => V.int (i + j)) (1 : Int) t0 = V.int tp from congrArg V.int etp.symm]
    have tp1 : 1 ≤ tp := by omega
    have tpb : tp ≤ bt := by omega
    refine ⟨nil_ok, fun U nU => ?_⟩
    have sU := same_upd (o := .lst []) nU
    have d21 := d20.same sU
    have eU : upd H20 U (.lst []) U = some (tL []) := upd_same
    have fU := d20.a.fresh nU
    refine ⟨_, rfl, (n : Int), rfl, by omega, by omega, for_range (lo := 0) (n := ((n : Nat) : Int).toNat) (fun i σ H' => ∃ y3 y17 y18, σ = sg (some (.ref a)) (some (.ref h)) (some (.int (n : Nat))) y3 (some (.ref D)) (some (.ref E)) (some (.ref G)) (some sv) (some (.ref pu)) y9 y10 (some (.ref pr)) (some (.ref x)) (some (.ref pt')) (some (.int bt)) (some (.int tp)) (some (.ref U)) y17 y18 none none none y22 y23 ∧ H' U = some (tL ((pt ts xs (mkT tp bt)).take i)) ∧ HpAt H' h q ∧ Kpt h q H20 H')
      ⟨_, _, _, rfl, eU, d21.a, .of_same sU⟩ (fun i σ H22 hi hI => ?_) (fun σ H22 hI => ?_)⟩
    · obtain ⟨y3', y17, y18, rfl, e22, a22, kp22⟩ := hI
      rw [Int.toNat_natCast] at hi
      rw [show ((0 : Int) + (i : Nat)) = (i : Int) by omega]
      have hx : xs[i]? = some (xs[i]'(by omega)) := List.getElem?_eq_getElem (by omega)
      have bx := bX _ (List.mem_of_getElem? hx)
      have ht : ts[i]? = some (ts[i]'(by omega)) := List.getElem?_eq_getElem (by omega)
      have hpm := pm _ (List.mem_of_getElem? ht)
      generalize xs[i]'(by omega) = xx at *
      generalize ts[i]'(by omega) = t at *
      have iT : atI (ts.map V.int) (i : Int) = some (.int t) := atI_nat (by rw [List.getElem?_map, ht]; rfl)
      have iX : atI (xs.map V.int) (i : Int) = some (.int xx) := atI_nat (by rw [List.getElem?_map, hx]; rfl)
      have hT := kp22 _ _ d20.eT D1 D2
      have hX := kp22 _ _ d20.eX G1 G2
      have ptl : (pt ts xs (mkT tp bt)).length = n := (pt_len ts xs _ (by omega)).trans lT
      have hp : (pt ts xs (mkT tp bt))[i]? = some (ptF (mkT tp bt) (t, xx)) := by unfold pt; rw [List.getElem?_map, zip_at ht hx]; rfl
      refine ⟨_, rfl, _, rfl, D, _, _, .int t, rfl, rfl, sq_lst hT, iT, _, rfl, _, rfl, G, _, _, .int xx, rfl, rfl, sq_lst hX, iX, _, _, rfl, rfl, .inl ⟨by rcases hpm with rfl | rfl <;> decide, by omega⟩, _, _, rfl, rfl, ⟨by decide, by decide⟩, ?_⟩
      refine ⟨_, rfl, _, rfl, D, _, _, .int t, rfl, rfl, sq_lst hT, iT, _, rfl, _, rfl, G, _, _, .int xx, rfl, rfl, sq_lst hX, iX, _, _, rfl, rfl, .inl ⟨by rcases hpm with rfl | rfl <;> decide, by omega⟩, _, rfl, _, _, rfl, rfl, .inl ⟨by decide, by rcases hpm with rfl | rfl <;> omega⟩, _, _, rfl, rfl, ?_⟩
      have ab0 : 0 ≤ t * xx - 12 * (t * xx / 12) ∧ t * xx - 12 * (t * xx / 12) ≤ 11 := by omega
      have bs0 : (t * xx / 12).natAbs ≤ 1000 := by rcases hpm with rfl | rfl <;> omega
      have ep : ∀ c : Int, c = (if mkT tp bt ≤ t * xx - 12 * (t * xx / 12) then 1 else 0) → t * (t * xx / 12 + c) = ptF (mkT tp bt) (t, xx) := fun c e => by subst e; rfl
      have iff := mkT_iff (top := tp) (show 0 < bt by omega) (t * xx - 12 * (t * xx / 12))
      have fin1 : ∀ c : Int, (c = (if mkT tp bt ≤ t * xx - 12 * (t * xx / 12) then 1 else 0)) → ∃ y3 y17' y18', sg (some (.ref a)) (some (.ref h)) (some (.int (n : Nat))) (some (.int (i : Nat))) (some (.ref D)) (some (.ref E)) (some (.ref G)) (some sv) (some (.ref pu)) y9 y10 (some (.ref pr)) (some (.ref x)) (some (.ref pt')) (some (.int bt)) (some (.int tp)) (some (.ref U)) (some (.int (t * xx / 12))) (some (.int (t * xx - 12 * (t * xx / 12)))) none none none y22 y23 = sg (some (.ref a)) (some (.ref h)) (some (.int (n : Nat))) y3 (some (.ref D)) (some (.ref E)) (some (.ref G)) (some sv) (some (.ref pu)) y9 y10 (some (.ref pr)) (some (.ref x)) (some (.ref pt')) (some (.int bt)) (some (.int tp)) (some (.ref U)) y17' y18' none none none y22 y23 ∧
          upd H22 U (.lst (((pt ts xs (mkT tp bt)).take i).map V.int ++ [V.int (t * (t * xx / 12 + c))])) U = some (tL ((pt ts xs (mkT tp bt)).take (i + 1))) ∧ HpAt (upd H22 U (.lst (((pt ts xs (mkT tp bt)).take i).map V.int ++ [V.int (t * (t * xx / 12 + c))]))) h q ∧ Kpt h q H20 (upd H22 U (.lst (((pt ts xs (mkT tp bt)).take i).map V.int ++ [V.int (t * (t * xx / 12 + c))]))) := fun c e => by
        refine ⟨_, _, _, rfl, ?_, a22.upd fU.1 fU.2, kp22.at_new nU⟩
        rw [upd_same, ep c e, take_one hp]
        unfold tL
        rw [List.map_append]; rfl
      have sm22 : (((pt ts xs (mkT tp bt)).take i).map V.int).length < sizeLine := small1000 (by rw [List.length_map, List.length_take]; omega)
      show gName 18 (V.int (t * xx - 12 * (t * xx / 12))) ((_ : L2.St).set 17 (some (.int (t * xx / 12)))) _ _
      generalize t * xx - 12 * (t * xx / 12) = ab at *
      generalize t * xx / 12 = bb at *
      refine ⟨_, rfl, .inl ⟨rfl, _, sq_lst e22⟩, _, rfl, _, rfl, D, _, _, .int t, rfl, rfl, sq_lst hT, iT, _, rfl, _, rfl, _, rfl, _, _, rfl, rfl, .inl ⟨by omega, by omega⟩, _, rfl, _, _, rfl, rfl, .inl ⟨by decide, by omega⟩, _, _, rfl, rfl, _, rfl, ite2 (fun z => ?_) (fun z => ?_)⟩
      · refine ⟨_, _, rfl, rfl, _, _, rfl, rfl, .inl ⟨by rcases hpm with rfl | rfl <;> decide, by omega⟩, U, _, _, rfl, rfl, e22, sm22, ?_⟩
        exact fin1 1 (by rw [if_pos (iff.mp (of_decide_eq_true z))])
      · refine ⟨_, _, rfl, rfl, _, _, rfl, rfl, .inl ⟨by rcases hpm with rfl | rfl <;> decide, by omega⟩, U, _, _, rfl, rfl, e22, sm22, ?_⟩
        exact fin1 0 (by rw [if_neg (fun w => z (decide_eq_true (iff.mpr w)))])
    rw [Int.toNat_natCast] at hI
    obtain ⟨y3', y17, y18, rfl, e22, a22, kp22⟩ := hI
    have ptl : (pt ts xs (mkT tp bt)).length = n := (pt_len ts xs _ (by omega)).trans lT
    rw [List.take_of_length_le (by omega)] at e22
    have d22 := d20.to D1 D2 G1 G2 kp22 a22
    have mb := mkT_bd tp1 tpb
    have kpt := keeps_pt W (show ts.length = ul.length by omega) pm (fun r hr => (gr r hr).fit) mb.1 mb.2
    have pbd : ∀ c ∈ pt ts xs (mkT tp bt), Sh12 c := pt_bd pm bX
    have ept' := rnd_drawn (top := tp) (show 0 < bt by omega) (xs := xs) (ts := ts)
    have f12s : ∀ f ∈ stF xs, F12 f := fun f hf => by
      obtain ⟨y, hy, rfl⟩ := List.mem_map.mp hf
      exact f12_low (bX y hy)
    have lst : (stF xs).length = n := by unfold stF; rw [List.length_map]; exact lX
    refine ⟨_, rfl, _, rfl, tp, bt, rfl, by omega, by omega, fun H23 pth s23 hth => ?_⟩
    refine ⟨_, rfl, D, _, rfl, .inl ⟨sq_lst (s23 _ _ d22.eT), fun ph2 nph2 => ?_⟩⟩
    have s24 := s23.trans (same_upd (o := .tup (ts.map V.int)) nph2)
    have d24 := d22.same s24
    have e24 := s24 _ _ e22
    have hth4 := same_upd (o := .tup (ts.map V.int)) nph2 _ _ hth
    have eph2 : upd H23 ph2 (.tup (ts.map V.int)) ph2 = some (tI ts) := upd_same
    generalize upd H23 ph2 (.tup (ts.map V.int)) = H24 at *
    refine ⟨_, rfl, sv, .ref ph2, .ref pth, stF xs, ts, lowF tp bt, rfl, d24.sv, ⟨ph2, rfl, eph2⟩, ⟨pth, rfl, hth4⟩, by omega, by omega, f12s, pm, Nat.le_trans (Int.natAbs_ediv_le_natAbs _ _) (by omega), Nat.le_trans (Int.natAbs_ediv_le_natAbs _ _) (by omega), fun H25 pr5 s25 hpr5 => ?_⟩
    rw [ept'] at hpr5
    have d25 := d24.same s25
    have e25 := s25 _ _ e24
    have lv5 : LV H25 (.ref pr5) (pt ts xs (mkT tp bt)) := ⟨pr5, rfl, hpr5⟩
    refine ⟨_, rfl, shownI lv5 pbd (by omega) ?_⟩
    refine ⟨_, rfl, U, _, rfl, .inl ⟨sq_lst e25, fun pd npd => ?_⟩⟩
    have s26 := same_upd (o := .tup ((pt ts xs (mkT tp bt)).map V.int)) npd
    have d26 := d25.same s26
    have lv6 := lv5.tk (.of s26)
    have lvd : LV (upd H25 pd (.tup ((pt ts xs (mkT tp bt)).map V.int))) (.ref pd) (pt ts xs (mkT tp bt)) := ⟨pd, rfl, upd_same⟩
    generalize upd H25 pd (.tup ((pt ts xs (mkT tp bt)).map V.int)) = H26 at *
    refine shownI lvd pbd (by omega) ?_
    refine ⟨rfl, _, rfl, ite2 (fun z => absurd z (by simp)) (fun _ => ?_)⟩
    refine ⟨_, rfl, _, rfl, _, rfl, .ref pu, .ref pr, .ref pr5, ul, rl, pt ts xs (mkT tp bt), rfl, d26.us, d26.rv, lv6, by omega, fun r hr => ⟨(W.rs r hr).1, fun c hc => Nat.le_trans ((W.rs r hr).2.1 c hc) (by decide)⟩, kpt.1, kpt.2.1, kpt.2.2, fun H27 s27 => ⟨true, rfl, iteF ?_⟩⟩
    have d27 := d26.same s27
    -- spoilt wishes
    refine ⟨fun σ H' => ∃ pw wl, σ = sg (some (.ref a)) (some (.ref h)) (some (.int (n : Nat))) y3' (some (.ref D)) (some (.ref E)) (some (.ref G)) (some sv) (some (.ref pu)) y9 y10 (some (.ref pr)) (some (.ref x)) (some (.ref pt')) (some (.int bt)) (some (.int tp)) (some (.ref U)) y17 y18 (some (.ref pr5)) (some (.ref pw)) none y22 y23 ∧ LD C H' h q x pu pr D G pt' sv ul rl goal ts tt xs ∧ WsV H' (.ref pw) wl ∧ SpOk n wl, ?_, fun σ H28 hM => ?_⟩
    · exact ⟨_, rfl, _, rfl, _, rfl, h, q, .ref pr, n, rl, rfl, d27.a, d27.rv, lr, n1, n6, fun r hr => (by rw [show n = ul.length by omega]; exact rwo r hr), fun H28 pw wl wv sp a28 kp28 => ⟨pw, wl, rfl, d27.to D1 D2 G1 G2 kp28 a28, wv, sp⟩⟩
    obtain ⟨pw, wl, rfl, d28, wv28, sp⟩ := hM
    obtain ⟨pw2, wus, e9, hpw, wvs⟩ := id wv28
    cases e9
    obtain ⟨pu2, uus, e9, hpu, uvs⟩ := id d28.us
    cases e9
    obtain ⟨x9, dx9, pu9, pw9, pg9, us9, ws9, ex, hx28, _, _, _, _, hpg⟩ := id d28.tv
    cases ex
    have wf := sp.few
    have nul : n = ul.length := by omega
    have rok2 : ∀ r, Wish.sum r ∈ wl → r.am.length = ul.length ∧ Sm 1000 r.am := fun r hr => by rw [← nul]; exact sp.rok r hr
    refine ⟨_, rfl, _, rfl, _, rfl, x, C, _, _, _, rfl, hx28, cc.cl, cc.ng, lk_g _ _ _, fun xn dn nx ndx nxd => ?_⟩
    have y6' := same_upd (o := .own xn) ndx
    have nx6 : upd H28 dn (.own xn) xn = none := by rw [upd_ne nxd.symm]; exact nx
    have y7 := y6'.trans (same_upd (o := .ins C dn []) nx6)
    have z7 : upd (upd H28 dn (.own xn)) xn (.ins C dn []) xn = some (.ins C dn []) := upd_same
    generalize upd (upd H28 dn (.own xn)) xn (.ins C dn []) = HC at *
    refine ⟨xn, dn, _, _, pg9, _, _, ul, wl, goal, rfl, z7, y7 _ _ hpu, uvs.same y7, y7 _ _ hpw, wvs.same y7, y7 _ _ hpg, uok, fun z hz => (by rw [← nul]; exact sp.ok z hz), lg, fun HD sD => ⟨rfl, ?_⟩⟩
    have sE : Same H28 (upd HD xn (.ins C dn [("unknowns", .ref pu), ("wishes", .ref pw), ("goal", .ref pg9)])) := same_at (y7.trans sD) nx
    have hxE : upd HD xn (.ins C dn [("unknowns", .ref pu), ("wishes", .ref pw), ("goal", .ref pg9)]) xn = some (.ins C dn [("unknowns", .ref pu), ("wishes", .ref pw), ("goal", .ref pg9)]) := upd_same
    generalize upd HD xn (.ins C dn [("unknowns", .ref pu), ("wishes", .ref pw), ("goal", .ref pg9)]) = HE at *
    have tvE : TaskV C HE (.ref xn) ul wl goal := ⟨xn, dn, pu, pw, pg9, uus, wus, rfl, hxE, sE _ _ hpu, uvs.same sE, sE _ _ hpw, wvs.same sE, sE _ _ hpg⟩
    have dE := d28.same sE
    have wvE : WsV HE (.ref pw) wl := ⟨pw, wus, rfl, sE _ _ hpw, wvs.same sE⟩
    obtain ⟨sf1, sf2⟩ := someF_turns rok2 W.n6
    rw [← nul] at sf1 sf2
    have lwl : wl.length ≤ 100 := by omega
    refine ⟨_, rfl, .ref xn, ul, wl, goal, rfl, tvE, lwl, by omega, rok2, fun HF sF eN => ?_, fun HF qt tt2 sF eS hqt => ?_⟩
    · rw [← nul] at eN
      have sm0 : someF n wl = false := by
        cases h : someF n wl with
        | false => rfl
        | true => obtain ⟨t', e'⟩ := sf2 h; rw [eN] at e'; cases e'
      have dF := dE.same sF
      refine ⟨_, rfl, _, rfl, .ref pw, wl, n, rfl, ⟨pw, wus, rfl, sF _ _ (sE _ _ hpw), (wvs.same sE).same sF⟩, n1, n6, sp.rok, fun HG sG => ⟨false, congrArg V.bl sm0, iteT ?_⟩⟩
      have dG := dF.same sG
      have sEG := sF.trans sG
      refine ⟨_, rfl, rfl, true, rfl, iteT ?_⟩
      refine ⟨_, rfl, _, rfl, .ref xn, sv, ul, wl, goal, stF xs, rfl, same_tv tvE sEG, dG.sv, lwl, by omega, rok2, by omega, lg, f12s, sg10, fun HH sH _ => ⟨rfl, ?_⟩, fun HH ts2 ns v sH e => (by rw [← nul, eN] at e; cases e)⟩
      exact fin HH
    · rw [← nul] at eS
      have sm1 : someF n wl = true := by
        cases h : someF n wl with
        | true => rfl
        | false => have := sf1 h; rw [eS] at this; cases this
      have dF := dE.same sF
      refine ⟨_, rfl, _, rfl, .ref pw, wl, n, rfl, ⟨pw, wus, rfl, sF _ _ (sE _ _ hpw), (wvs.same sE).same sF⟩, n1, n6, sp.rok, fun HG sG => ⟨true, congrArg V.bl sm1, iteF ?_⟩⟩
      have dG := dF.same sG
      have l2 := turnsF_len eS
      have pm2 := turnsF_pm sp.rok eS
      have fit2 := turnsF_fit sp.rok eS
      have hqG := sG _ _ hqt
      refine ⟨_, rfl, _, rfl, .ref qt, tt2, congrArg (fun z => [V.ref qt, V.int z]) (show (n : Int) = ((tt2.length : Nat) : Int) by omega), ⟨qt, rfl, hqG⟩, by omega, pm2, fun HH sH => ⟨true, rfl, iteT ?_⟩⟩
      have dH := dG.same sH
      refine ⟨_, rfl, _, rfl, .ref pw, .ref qt, wl, tt2, rfl, ⟨pw, wus, rfl, sH _ _ (sG _ _ (sF _ _ (sE _ _ hpw))), (((wvs.same sE).same sF).same sG).same sH⟩, ⟨qt, rfl, .inr (sH _ _ hqG)⟩, pm2, by omega, fun r hr => by rw [l2]; exact sp.rok r hr, fun HI sI => ⟨true, congrArg V.bl fit2, iteT ?_⟩⟩
      have dI' := dH.same sI
      refine ⟨_, rfl, .ref x, ul, rl.map .sum, goal, rfl, dI'.tv, by rw [List.length_map]; omega, by omega, rok, fun H6 s6 e => (by rw [eTT] at e; cases e), fun HJ pj tt3 sJ e hpj => ?_⟩
      obtain rfl : tt = tt3 := Option.some.inj (eTT.symm.trans e)
      have tbd : ∀ c ∈ tt, Sh12 c := fun c hc => by
        unfold Sh12
        rcases pmt c hc with rfl | rfl <;> decide
      refine shownI ⟨pj, rfl, hpj⟩ tbd (by omega) ?_
      refine ⟨_, rfl, shownI ((dI'.same sJ).lv) tbd (by omega) ⟨rfl, ?_⟩⟩
      have := fin HJ
      rw [← decide_eq_true (show V.str (dI tt).shown = V.str (dI tt).shown from rfl)] at this
      exact this
end
end M57

namespace M57
open PySem PySem.W PySem.Calls PyProof.Rows Own Gd
open L2 (FnScope defArgs defBody defScope FunD Fun Binds OexC XfC xfB xfB_ok FnOk CX0 Sp Cls NoAttr Mk)
def d_is_whole : He.DefD := ⟨("is_whole", none), "is_whole", "is_whole", defArgs s_is_whole, defBody s_is_whole, defScope s_is_whole, [], []⟩
def d_is_places : He.DefD := ⟨("is_places", none), "is_places", "is_places", defArgs s_is_places, defBody s_is_places, defScope s_is_places, [], []⟩
def d_is_integers : He.DefD := ⟨("is_integers", none), "is_integers", "is_integers", defArgs s_is_integers, defBody s_is_integers, defScope s_is_integers, [], []⟩
def d_is_lot_of_places : He.DefD := ⟨("is_lot_of_places", none), "is_lot_of_places", "is_lot_of_places", defArgs s_is_lot_of_places, defBody s_is_lot_of_places, defScope s_is_lot_of_places, [], []⟩
def d_is_unlike : He.DefD := ⟨("_is_unlike", none), "_is_unlike", "_is_unlike", defArgs s_is_unlike, defBody s_is_unlike, defScope s_is_unlike, [], []⟩
def d_is_jobs : He.DefD := ⟨("_is_jobs", none), "_is_jobs", "_is_jobs", defArgs s_is_jobs, defBody s_is_jobs, defScope s_is_jobs, [], []⟩
def d_is_bench : He.DefD := ⟨("_is_bench", none), "_is_bench", "_is_bench", defArgs s_is_bench, defBody s_is_bench, defScope s_is_bench, [], []⟩
def d_is_sum : He.DefD := ⟨("_is_sum", none), "_is_sum", "_is_sum", defArgs s_is_sum, defBody s_is_sum, defScope s_is_sum, [], []⟩
def d_is_table : He.DefD := ⟨("_is_table", none), "_is_table", "_is_table", defArgs s_is_table, defBody s_is_table, defScope s_is_table, [], []⟩
def d_is_wish : He.DefD := ⟨("is_wish", none), "is_wish", "is_wish", defArgs s_is_wish, defBody s_is_wish, defScope s_is_wish, [], []⟩
def d_is_name : He.DefD := ⟨("is_name", none), "is_name", "is_name", defArgs s_is_name, defBody s_is_name, defScope s_is_name, [], []⟩
def d_is_pair : He.DefD := ⟨("is_pair", none), "is_pair", "is_pair", defArgs s_is_pair, defBody s_is_pair, defScope s_is_pair, [], []⟩
def d_is_unknown : He.DefD := ⟨("_is_unknown", none), "_is_unknown", "_is_unknown", defArgs s_is_unknown, defBody s_is_unknown, defScope s_is_unknown, [], []⟩
def d_check_unknowns : He.DefD := ⟨("_check_unknowns", none), "_check_unknowns", "_check_unknowns", defArgs s_check_unknowns, defBody s_check_unknowns, defScope s_check_unknowns, [], []⟩
def d_check_wishes : He.DefD := ⟨("_check_wishes", none), "_check_wishes", "_check_wishes", defArgs s_check_wishes, defBody s_check_wishes, defScope s_check_wishes, [], []⟩
def d_check_goal : He.DefD := ⟨("_check_goal", none), "_check_goal", "_check_goal", defArgs s_check_goal, defBody s_check_goal, defScope s_check_goal, [], []⟩
def d_Lany : He.DefD := ⟨("_law_any", none), "_law_any", "_law_any", defArgs s_Lany, defBody s_Lany, defScope s_Lany, [], []⟩
def d_Ldraw : He.DefD := ⟨("_law_draw", none), "_law_draw", "_law_draw", defArgs s_Ldraw, defBody s_Ldraw, defScope s_Ldraw, [], []⟩
def d_Lof : He.DefD := ⟨("_law_of", none), "_law_of", "_law_of", defArgs s_Lof, defBody s_Lof, defScope s_Lof, [], []⟩
def d_Llow : He.DefD := ⟨("_law_low", none), "_law_low", "_law_low", defArgs s_Llow, defBody s_Llow, defScope s_Llow, [], []⟩
def d_fraction_of : He.DefD := ⟨("fraction_of", none), "fraction_of", "fraction_of", defArgs s_fraction_of, defBody s_fraction_of, defScope s_fraction_of, [], []⟩
def d_is_less : He.DefD := ⟨("is_less", none), "is_less", "is_less", defArgs s_is_less, defBody s_is_less, defScope s_is_less, [], []⟩
def d_total_of : He.DefD := ⟨("total_of", none), "total_of", "total_of", defArgs s_total_of, defBody s_total_of, defScope s_total_of, [], []⟩
def d_worth : He.DefD := ⟨("worth", none), "worth", "worth", defArgs s_worth, defBody s_worth, defScope s_worth, [], []⟩
def d_named_by : He.DefD := ⟨("named_by", none), "named_by", "named_by", defArgs s_named_by, defBody s_named_by, defScope s_named_by, [], []⟩
def d_rounded_at : He.DefD := ⟨("rounded_at", none), "rounded_at", "rounded_at", defArgs s_rounded_at, defBody s_rounded_at, defScope s_rounded_at, [], []⟩
def d_threshold_points : He.DefD := ⟨("threshold_points", none), "threshold_points", "threshold_points", defArgs s_threshold_points, defBody s_threshold_points, defScope s_threshold_points, [], []⟩
def d_turns_along : He.DefD := ⟨("_turns_along", none), "_turns_along", "_turns_along", defArgs s_turns_along, defBody s_turns_along, defScope s_turns_along, [], []⟩
def d_turns_of : He.DefD := ⟨("turns_of", none), "turns_of", "turns_of", defArgs s_turns_of, defBody s_turns_of, defScope s_turns_of, [], []⟩
def d_best_threshold : He.DefD := ⟨("best_threshold", none), "best_threshold", "best_threshold", defArgs s_best_threshold, defBody s_best_threshold, defScope s_best_threshold, [], []⟩
def d_Lsum : He.DefD := ⟨("_law_sum", none), "_law_sum", "_law_sum", defArgs s_Lsum, defBody s_Lsum, defScope s_Lsum, [], []⟩
def d_Lturned : He.DefD := ⟨("_law_turned", none), "_law_turned", "_law_turned", defArgs s_Lturned, defBody s_Lturned, defScope s_Lturned, [], []⟩
def d_Lkeeps : He.DefD := ⟨("_law_keeps", none), "_law_keeps", "_law_keeps", defArgs s_Lkeeps, defBody s_Lkeeps, defScope s_Lkeeps, [], []⟩
def d_Lare_turns : He.DefD := ⟨("_law_are_turns", none), "_law_are_turns", "_law_are_turns", defArgs s_Lare_turns, defBody s_Lare_turns, defScope s_Lare_turns, [], []⟩
def d_Lfit : He.DefD := ⟨("_law_fit", none), "_law_fit", "_law_fit", defArgs s_Lfit, defBody s_Lfit, defScope s_Lfit, [], []⟩
def d_Lsome_fit : He.DefD := ⟨("_law_some_fit", none), "_law_some_fit", "_law_some_fit", defArgs s_Lsome_fit, defBody s_Lsome_fit, defScope s_Lsome_fit, [], []⟩
def d_Lrow : He.DefD := ⟨("_law_row", none), "_law_row", "_law_row", defArgs s_Lrow, defBody s_Lrow, defScope s_Lrow, [], []⟩
def d_Lright : He.DefD := ⟨("_law_right", none), "_law_right", "_law_right", defArgs s_Lright, defBody s_Lright, defScope s_Lright, [], []⟩
def d_Lbest : He.DefD := ⟨("_law_best", none), "_law_best", "_law_best", defArgs s_Lbest, defBody s_Lbest, defScope s_Lbest, [], []⟩
def d_Lsharp : He.DefD := ⟨("_law_sharp", none), "_law_sharp", "_law_sharp", defArgs s_Lsharp, defBody s_Lsharp, defScope s_Lsharp, [], []⟩
def d_Lspoilt : He.DefD := ⟨("_law_spoilt", none), "_law_spoilt", "_law_spoilt", defArgs s_Lspoilt, defBody s_Lspoilt, defScope s_Lspoilt, [], []⟩
def d_law : He.DefD := ⟨("law", none), "law", "law", defArgs s_law, defBody s_law, defScope s_law, [], []⟩
def d_Ti : He.DefD := ⟨("Task", some "__init__"), "__init__", "Task.__init__", defArgs s_Task_init, defBody s_Task_init, defScope s_Task_init, [], []⟩
def fnL0 : List He.DefD := [d_is_whole, d_is_places, d_is_integers, d_is_lot_of_places, d_is_unlike, d_is_jobs, d_is_bench, d_is_sum, d_is_table, d_is_wish]
def fnL1 : List He.DefD := [d_is_name, d_is_pair, d_is_unknown, d_check_unknowns, d_check_wishes, d_check_goal, d_Lany, d_Ldraw, d_Lof, d_Llow]
def fnL2 : List He.DefD := [d_fraction_of, d_is_less, d_total_of, d_worth, d_named_by, d_rounded_at, d_threshold_points, d_turns_along, d_turns_of, d_best_threshold]
def fnL3 : List He.DefD := [d_Lsum, d_Lturned, d_Lkeeps, d_Lare_turns, d_Lfit, d_Lsome_fit, d_Lrow, d_Lright, d_Lbest, d_Lsharp]
def fnL4 : List He.DefD := [d_Lspoilt, d_law, d_Ti]
def fnL : List He.DefD := fnL0 ++ fnL1 ++ fnL2 ++ fnL3 ++ fnL4
def faL0 : List He.Fa := [.glo "is_whole", .glo "is_places", .glo "is_integers", .glo "is_lot_of_places", .glo "_is_unlike", .glo "_is_jobs", .glo "_is_bench", .glo "_is_sum", .glo "_is_table", .glo "is_wish"]
def faL1 : List He.Fa := [.glo "is_name", .glo "is_pair", .glo "_is_unknown", .glo "_check_unknowns", .glo "_check_wishes", .glo "_check_goal", .glo "_law_any", .glo "_law_draw", .glo "_law_of", .glo "_law_low"]
def faL2 : List He.Fa := [.glo "fraction_of", .glo "is_less", .glo "total_of", .glo "worth", .glo "named_by", .glo "rounded_at", .glo "threshold_points", .glo "_turns_along", .glo "turns_of", .glo "best_threshold"]
def faL3 : List He.Fa := [.glo "_law_sum", .glo "_law_turned", .glo "_law_keeps", .glo "_law_are_turns", .glo "_law_fit", .glo "_law_some_fit", .glo "_law_row", .glo "_law_right", .glo "_law_best", .glo "_law_sharp"]
def faL4 : List He.Fa := [.glo "_law_spoilt", .glo "law", .glo "Task", .glo "WORDS", .glo "WISH_TESTS", .int "LONGEST_NAME" 6, .str "LETTERS" "abcdefghijklmnopqrstuvwxyz", .cls "Task", .noat "Task" "unknowns", .noat "Task" "wishes"]
def faL5 : List He.Fa := [.noat "Task" "goal", .mkr "Task", .free "len", .free "range", .free "int", .free "abs", .free "all", .free "sum", .free "repr", .free "tuple"]
def faL6 : List He.Fa := [.free "bool", .free "str", .free "zip", .free "any", .free "set", .free "enumerate", .free "isinstance", .free "sorted", .free "min", .free "max"]
def faL : List He.Fa := faL0 ++ faL1 ++ faL2 ++ faL3 ++ faL4 ++ faL5 ++ faL6
def tfL : List He.Defn := []
def tsL : List He.Tab := [(fun K => He.ga K "WISH_TESTS", ["sum", "unlike", "table", "either", "bench", "room", "round"])]
/-- a tuple of the top -/
def tupB (K : Frag) (a : Addr) (xs : List L2.V) : Bool := match K.lookup a with
  | some ⟨.type t, _, .seq its _, _⟩ => decide (t = "tuple") && (decide (its.size ≤ sizeLine) && He.relAll xs its.toList)
  | _ => false
theorem tupB_ok {K : Frag} {a : Addr} {xs : List L2.V} (h : tupB K a xs = true) (H : L2.Hp) : L2.SqT K H a xs := by
  unfold tupB at h
  cases q : K.lookup a with
  | none => rw [q] at h; cases h
  | some o =>
    obtain ⟨oc, od, dt, osl⟩ := o
    rw [q] at h
    cases oc with
    | type t =>
      cases dt with
      | seq its n =>
        obtain ⟨h1, h2⟩ := He.ba h
        obtain ⟨h3, h4⟩ := He.ba h2
        obtain rfl := of_decide_eq_true h1
        exact .inr ⟨_, its, n, q, rfl, rfl, of_decide_eq_true h3, He.relAll_ok h4⟩
      | _ => cases h
    | _ => cases dt <;> cases h
def exB (K : Frag) : Bool := tupB K (He.ga K "WORDS") (wordsL.map L2.V.str) && (He.valsB K (He.ga K "WISH_TESTS") [("sum", .glo "_is_sum"), ("unlike", .glo "_is_unlike"), ("bench", .glo "_is_bench"), ("table", .glo "_is_table")] && (decide ([He.ga K "_is_sum", He.ga K "_is_unlike", He.ga K "_is_bench", He.ga K "_is_table"].Nodup) && (He.eqO (PySem.W.nsIn K mainGlobals "gcd") (some (some (.builtin "math.gcd"))) && He.eqO (PySem.W.nsIn K mainGlobals "lcm") (some (some (.builtin "math.lcm"))))))
open C8 (Cal Mak)
theorem facts {l : OpenLaw} {w : World} {K : Frag} {h : Heap} {mg : PySem.Str → Option Value} {fa : Addr} (X : K.In h) (G : h.Ns mainGlobals mg) (hfa : mg ("law" : PySem.Str) = some (.ref fa)) (c : He.SaysX faL fnL tsL tfL exB w h K) : LawG l w K 11 63 "script" mg fa h := by
  have cd := c.t.d
  obtain ⟨x3, x⟩ := He.ba c.more
  obtain ⟨x4, x⟩ := He.ba x
  obtain ⟨x5, x⟩ := He.ba x
  obtain ⟨x6, x7⟩ := He.ba x
  have x5 := of_decide_eq_true x5
  have z_gcd : mg "gcd" = some (.builtin "math.gcd") := PySem.W.mg_of X G (He.eqO_ok x6)
  have z_lcm : mg "lcm" = some (.builtin "math.lcm") := PySem.W.mg_of X G (He.eqO_ok x7)
  have g_is_whole : mg "is_whole" = some (.ref (He.ga K "is_whole")) := He.glo_ok X G (cd.fact 0 (f := .glo "is_whole") rfl)
  obtain ⟨fd_is_whole, W_is_whole⟩ := cd.def_ 0 (d := d_is_whole) rfl
  have F_is_whole : Fun K "is_whole" "is_whole" s_is_whole (He.ga K "is_whole") fd_is_whole := funOf W_is_whole
  have D_is_whole : Df K mg "is_whole" s_is_whole ["value"] := ⟨_, _, F_is_whole, g_is_whole, F_is_whole.binds fun _ _ _ _ _ _ us hl => match us, hl with | [_], _ => rfl⟩
  have g_is_places : mg "is_places" = some (.ref (He.ga K "is_places")) := He.glo_ok X G (cd.fact 1 (f := .glo "is_places") rfl)
  obtain ⟨fd_is_places, W_is_places⟩ := cd.def_ 1 (d := d_is_places) rfl
  have F_is_places : Fun K "is_places" "is_places" s_is_places (He.ga K "is_places") fd_is_places := funOf W_is_places
  have D_is_places : Df K mg "is_places" s_is_places ["value", "size"] := ⟨_, _, F_is_places, g_is_places, F_is_places.binds fun _ _ _ _ _ _ us hl => match us, hl with | [_, _], _ => rfl⟩
  have g_is_integers : mg "is_integers" = some (.ref (He.ga K "is_integers")) := He.glo_ok X G (cd.fact 2 (f := .glo "is_integers") rfl)
  obtain ⟨fd_is_integers, W_is_integers⟩ := cd.def_ 2 (d := d_is_integers) rfl
  have F_is_integers : Fun K "is_integers" "is_integers" s_is_integers (He.ga K "is_integers") fd_is_integers := funOf W_is_integers
  have D_is_integers : Df K mg "is_integers" s_is_integers ["value", "many"] := ⟨_, _, F_is_integers, g_is_integers, F_is_integers.binds fun _ _ _ _ _ _ us hl => match us, hl with | [_, _], _ => rfl⟩
  have g_is_lot_of_places : mg "is_lot_of_places" = some (.ref (He.ga K "is_lot_of_places")) := He.glo_ok X G (cd.fact 3 (f := .glo "is_lot_of_places") rfl)
  obtain ⟨fd_is_lot_of_places, W_is_lot_of_places⟩ := cd.def_ 3 (d := d_is_lot_of_places) rfl
  have F_is_lot_of_places : Fun K "is_lot_of_places" "is_lot_of_places" s_is_lot_of_places (He.ga K "is_lot_of_places") fd_is_lot_of_places := funOf W_is_lot_of_places
  have D_is_lot_of_places : Df K mg "is_lot_of_places" s_is_lot_of_places ["value", "size"] := ⟨_, _, F_is_lot_of_places, g_is_lot_of_places, F_is_lot_of_places.binds fun _ _ _ _ _ _ us hl => match us, hl with | [_, _], _ => rfl⟩
  have g_is_unlike : mg "_is_unlike" = some (.ref (He.ga K "_is_unlike")) := He.glo_ok X G (cd.fact 4 (f := .glo "_is_unlike") rfl)
  obtain ⟨fd_is_unlike, W_is_unlike⟩ := cd.def_ 4 (d := d_is_unlike) rfl
  have F_is_unlike : Fun K "_is_unlike" "_is_unlike" s_is_unlike (He.ga K "_is_unlike") fd_is_unlike := funOf W_is_unlike
  have D_is_unlike : Df K mg "_is_unlike" s_is_unlike ["value", "size"] := ⟨_, _, F_is_unlike, g_is_unlike, F_is_unlike.binds fun _ _ _ _ _ _ us hl => match us, hl with | [_, _], _ => rfl⟩
  have g_is_jobs : mg "_is_jobs" = some (.ref (He.ga K "_is_jobs")) := He.glo_ok X G (cd.fact 5 (f := .glo "_is_jobs") rfl)
  obtain ⟨fd_is_jobs, W_is_jobs⟩ := cd.def_ 5 (d := d_is_jobs) rfl
  have F_is_jobs : Fun K "_is_jobs" "_is_jobs" s_is_jobs (He.ga K "_is_jobs") fd_is_jobs := funOf W_is_jobs
  have D_is_jobs : Df K mg "_is_jobs" s_is_jobs ["value", "size", "many"] := ⟨_, _, F_is_jobs, g_is_jobs, F_is_jobs.binds fun _ _ _ _ _ _ us hl => match us, hl with | [_, _, _], _ => rfl⟩
  have g_is_bench : mg "_is_bench" = some (.ref (He.ga K "_is_bench")) := He.glo_ok X G (cd.fact 6 (f := .glo "_is_bench") rfl)
  obtain ⟨fd_is_bench, W_is_bench⟩ := cd.def_ 6 (d := d_is_bench) rfl
  have F_is_bench : Fun K "_is_bench" "_is_bench" s_is_bench (He.ga K "_is_bench") fd_is_bench := funOf W_is_bench
  have D_is_bench : Df K mg "_is_bench" s_is_bench ["value", "size"] := ⟨_, _, F_is_bench, g_is_bench, F_is_bench.binds fun _ _ _ _ _ _ us hl => match us, hl with | [_, _], _ => rfl⟩
  have g_is_sum : mg "_is_sum" = some (.ref (He.ga K "_is_sum")) := He.glo_ok X G (cd.fact 7 (f := .glo "_is_sum") rfl)
  obtain ⟨fd_is_sum, W_is_sum⟩ := cd.def_ 7 (d := d_is_sum) rfl
  have F_is_sum : Fun K "_is_sum" "_is_sum" s_is_sum (He.ga K "_is_sum") fd_is_sum := funOf W_is_sum
  have D_is_sum : Df K mg "_is_sum" s_is_sum ["value", "size"] := ⟨_, _, F_is_sum, g_is_sum, F_is_sum.binds fun _ _ _ _ _ _ us hl => match us, hl with | [_, _], _ => rfl⟩
  have g_is_table : mg "_is_table" = some (.ref (He.ga K "_is_table")) := He.glo_ok X G (cd.fact 8 (f := .glo "_is_table") rfl)
  obtain ⟨fd_is_table, W_is_table⟩ := cd.def_ 8 (d := d_is_table) rfl
  have F_is_table : Fun K "_is_table" "_is_table" s_is_table (He.ga K "_is_table") fd_is_table := funOf W_is_table
  have D_is_table : Df K mg "_is_table" s_is_table ["value", "size"] := ⟨_, _, F_is_table, g_is_table, F_is_table.binds fun _ _ _ _ _ _ us hl => match us, hl with | [_, _], _ => rfl⟩
  have g_is_wish : mg "is_wish" = some (.ref (He.ga K "is_wish")) := He.glo_ok X G (cd.fact 9 (f := .glo "is_wish") rfl)
  obtain ⟨fd_is_wish, W_is_wish⟩ := cd.def_ 9 (d := d_is_wish) rfl
  have F_is_wish : Fun K "is_wish" "is_wish" s_is_wish (He.ga K "is_wish") fd_is_wish := funOf W_is_wish
  have D_is_wish : Df K mg "is_wish" s_is_wish ["value", "size"] := ⟨_, _, F_is_wish, g_is_wish, F_is_wish.binds fun _ _ _ _ _ _ us hl => match us, hl with | [_, _], _ => rfl⟩
  have g_is_name : mg "is_name" = some (.ref (He.ga K "is_name")) := He.glo_ok X G (cd.fact 10 (f := .glo "is_name") rfl)
  obtain ⟨fd_is_name, W_is_name⟩ := cd.def_ 10 (d := d_is_name) rfl
  have F_is_name : Fun K "is_name" "is_name" s_is_name (He.ga K "is_name") fd_is_name := funOf W_is_name
  have D_is_name : Df K mg "is_name" s_is_name ["value"] := ⟨_, _, F_is_name, g_is_name, F_is_name.binds fun _ _ _ _ _ _ us hl => match us, hl with | [_], _ => rfl⟩
  have g_is_pair : mg "is_pair" = some (.ref (He.ga K "is_pair")) := He.glo_ok X G (cd.fact 11 (f := .glo "is_pair") rfl)
  obtain ⟨fd_is_pair, W_is_pair⟩ := cd.def_ 11 (d := d_is_pair) rfl
  have F_is_pair : Fun K "is_pair" "is_pair" s_is_pair (He.ga K "is_pair") fd_is_pair := funOf W_is_pair
  have D_is_pair : Df K mg "is_pair" s_is_pair ["value"] := ⟨_, _, F_is_pair, g_is_pair, F_is_pair.binds fun _ _ _ _ _ _ us hl => match us, hl with | [_], _ => rfl⟩
  have g_is_unknown : mg "_is_unknown" = some (.ref (He.ga K "_is_unknown")) := He.glo_ok X G (cd.fact 12 (f := .glo "_is_unknown") rfl)
  obtain ⟨fd_is_unknown, W_is_unknown⟩ := cd.def_ 12 (d := d_is_unknown) rfl
  have F_is_unknown : Fun K "_is_unknown" "_is_unknown" s_is_unknown (He.ga K "_is_unknown") fd_is_unknown := funOf W_is_unknown
  have D_is_unknown : Df K mg "_is_unknown" s_is_unknown ["value"] := ⟨_, _, F_is_unknown, g_is_unknown, F_is_unknown.binds fun _ _ _ _ _ _ us hl => match us, hl with | [_], _ => rfl⟩
  have g_check_unknowns : mg "_check_unknowns" = some (.ref (He.ga K "_check_unknowns")) := He.glo_ok X G (cd.fact 13 (f := .glo "_check_unknowns") rfl)
  obtain ⟨fd_check_unknowns, W_check_unknowns⟩ := cd.def_ 13 (d := d_check_unknowns) rfl
  have F_check_unknowns : Fun K "_check_unknowns" "_check_unknowns" s_check_unknowns (He.ga K "_check_unknowns") fd_check_unknowns := funOf W_check_unknowns
  have D_check_unknowns : Df K mg "_check_unknowns" s_check_unknowns ["value"] := ⟨_, _, F_check_unknowns, g_check_unknowns, F_check_unknowns.binds fun _ _ _ _ _ _ us hl => match us, hl with | [_], _ => rfl⟩
  have g_check_wishes : mg "_check_wishes" = some (.ref (He.ga K "_check_wishes")) := He.glo_ok X G (cd.fact 14 (f := .glo "_check_wishes") rfl)
  obtain ⟨fd_check_wishes, W_check_wishes⟩ := cd.def_ 14 (d := d_check_wishes) rfl
  have F_check_wishes : Fun K "_check_wishes" "_check_wishes" s_check_wishes (He.ga K "_check_wishes") fd_check_wishes := funOf W_check_wishes
  have D_check_wishes : Df K mg "_check_wishes" s_check_wishes ["value", "size"] := ⟨_, _, F_check_wishes, g_check_wishes, F_check_wishes.binds fun _ _ _ _ _ _ us hl => match us, hl with | [_, _], _ => rfl⟩
  have g_check_goal : mg "_check_goal" = some (.ref (He.ga K "_check_goal")) := He.glo_ok X G (cd.fact 15 (f := .glo "_check_goal") rfl)
  obtain ⟨fd_check_goal, W_check_goal⟩ := cd.def_ 15 (d := d_check_goal) rfl
  have F_check_goal : Fun K "_check_goal" "_check_goal" s_check_goal (He.ga K "_check_goal") fd_check_goal := funOf W_check_goal
  have D_check_goal : Df K mg "_check_goal" s_check_goal ["value", "size"] := ⟨_, _, F_check_goal, g_check_goal, F_check_goal.binds fun _ _ _ _ _ _ us hl => match us, hl with | [_, _], _ => rfl⟩
  have g_Lany : mg "_law_any" = some (.ref (He.ga K "_law_any")) := He.glo_ok X G (cd.fact 16 (f := .glo "_law_any") rfl)
  obtain ⟨fd_Lany, W_Lany⟩ := cd.def_ 16 (d := d_Lany) rfl
  have F_Lany : Fun K "_law_any" "_law_any" s_Lany (He.ga K "_law_any") fd_Lany := funOf W_Lany
  have D_Lany : Df K mg "_law_any" s_Lany ["deal", "bound"] := ⟨_, _, F_Lany, g_Lany, F_Lany.binds fun _ _ _ _ _ _ us hl => match us, hl with | [_, _], _ => rfl⟩
  have g_Ldraw : mg "_law_draw" = some (.ref (He.ga K "_law_draw")) := He.glo_ok X G (cd.fact 17 (f := .glo "_law_draw") rfl)
  obtain ⟨fd_Ldraw, W_Ldraw⟩ := cd.def_ 17 (d := d_Ldraw) rfl
  have F_Ldraw : Fun K "_law_draw" "_law_draw" s_Ldraw (He.ga K "_law_draw") fd_Ldraw := funOf W_Ldraw
  have D_Ldraw : Df K mg "_law_draw" s_Ldraw ["script", "salt"] := ⟨_, _, F_Ldraw, g_Ldraw, F_Ldraw.binds fun _ _ _ _ _ _ us hl => match us, hl with | [_, _], _ => rfl⟩
  have g_Lof : mg "_law_of" = some (.ref (He.ga K "_law_of")) := He.glo_ok X G (cd.fact 18 (f := .glo "_law_of") rfl)
  obtain ⟨fd_Lof, W_Lof⟩ := cd.def_ 18 (d := d_Lof) rfl
  have F_Lof : Fun K "_law_of" "_law_of" s_Lof (He.ga K "_law_of") fd_Lof := funOf W_Lof
  have D_Lof : Df K mg "_law_of" s_Lof ["deal", "some"] := ⟨_, _, F_Lof, g_Lof, F_Lof.binds fun _ _ _ _ _ _ us hl => match us, hl with | [_, _], _ => rfl⟩
  have g_Llow : mg "_law_low" = some (.ref (He.ga K "_law_low")) := He.glo_ok X G (cd.fact 19 (f := .glo "_law_low") rfl)
  obtain ⟨fd_Llow, W_Llow⟩ := cd.def_ 19 (d := d_Llow) rfl
  have F_Llow : Fun K "_law_low" "_law_low" s_Llow (He.ga K "_law_low") fd_Llow := funOf W_Llow
  have D_Llow : Df K mg "_law_low" s_Llow ["top", "bottom"] := ⟨_, _, F_Llow, g_Llow, F_Llow.binds fun _ _ _ _ _ _ us hl => match us, hl with | [_, _], _ => rfl⟩
  have g_fraction_of : mg "fraction_of" = some (.ref (He.ga K "fraction_of")) := He.glo_ok X G (cd.fact 20 (f := .glo "fraction_of") rfl)
  obtain ⟨fd_fraction_of, W_fraction_of⟩ := cd.def_ 20 (d := d_fraction_of) rfl
  have F_fraction_of : Fun K "fraction_of" "fraction_of" s_fraction_of (He.ga K "fraction_of") fd_fraction_of := funOf W_fraction_of
  have D_fraction_of : Df K mg "fraction_of" s_fraction_of ["top", "bottom"] := ⟨_, _, F_fraction_of, g_fraction_of, F_fraction_of.binds fun _ _ _ _ _ _ us hl => match us, hl with | [_, _], _ => rfl⟩
  have g_is_less : mg "is_less" = some (.ref (He.ga K "is_less")) := He.glo_ok X G (cd.fact 21 (f := .glo "is_less") rfl)
  obtain ⟨fd_is_less, W_is_less⟩ := cd.def_ 21 (d := d_is_less) rfl
  have F_is_less : Fun K "is_less" "is_less" s_is_less (He.ga K "is_less") fd_is_less := funOf W_is_less
  have D_is_less : Df K mg "is_less" s_is_less ["one", "other"] := ⟨_, _, F_is_less, g_is_less, F_is_less.binds fun _ _ _ _ _ _ us hl => match us, hl with | [_, _], _ => rfl⟩
  have g_total_of : mg "total_of" = some (.ref (He.ga K "total_of")) := He.glo_ok X G (cd.fact 22 (f := .glo "total_of") rfl)
  obtain ⟨fd_total_of, W_total_of⟩ := cd.def_ 22 (d := d_total_of) rfl
  have F_total_of : Fun K "total_of" "total_of" s_total_of (He.ga K "total_of") fd_total_of := funOf W_total_of
  have D_total_of : Df K mg "total_of" s_total_of ["coefficients", "integers"] := ⟨_, _, F_total_of, g_total_of, F_total_of.binds fun _ _ _ _ _ _ us hl => match us, hl with | [_, _], _ => rfl⟩
  have g_worth : mg "worth" = some (.ref (He.ga K "worth")) := He.glo_ok X G (cd.fact 23 (f := .glo "worth") rfl)
  obtain ⟨fd_worth, W_worth⟩ := cd.def_ 23 (d := d_worth) rfl
  have F_worth : Fun K "worth" "worth" s_worth (He.ga K "worth") fd_worth := funOf W_worth
  have D_worth : Df K mg "worth" s_worth ["goal", "point"] := ⟨_, _, F_worth, g_worth, F_worth.binds fun _ _ _ _ _ _ us hl => match us, hl with | [_, _], _ => rfl⟩
  have g_named_by : mg "named_by" = some (.ref (He.ga K "named_by")) := He.glo_ok X G (cd.fact 24 (f := .glo "named_by") rfl)
  obtain ⟨fd_named_by, W_named_by⟩ := cd.def_ 24 (d := d_named_by) rfl
  have F_named_by : Fun K "named_by" "named_by" s_named_by (He.ga K "named_by") fd_named_by := funOf W_named_by
  have D_named_by : Df K mg "named_by" s_named_by ["wish"] := ⟨_, _, F_named_by, g_named_by, F_named_by.binds fun _ _ _ _ _ _ us hl => match us, hl with | [_], _ => rfl⟩
  have g_rounded_at : mg "rounded_at" = some (.ref (He.ga K "rounded_at")) := He.glo_ok X G (cd.fact 25 (f := .glo "rounded_at") rfl)
  obtain ⟨fd_rounded_at, W_rounded_at⟩ := cd.def_ 25 (d := d_rounded_at) rfl
  have F_rounded_at : Fun K "rounded_at" "rounded_at" s_rounded_at (He.ga K "rounded_at") fd_rounded_at := funOf W_rounded_at
  have D_rounded_at : Df K mg "rounded_at" s_rounded_at ["start", "turns", "threshold"] := ⟨_, _, F_rounded_at, g_rounded_at, F_rounded_at.binds fun _ _ _ _ _ _ us hl => match us, hl with | [_, _, _], _ => rfl⟩
  have g_threshold_points : mg "threshold_points" = some (.ref (He.ga K "threshold_points")) := He.glo_ok X G (cd.fact 26 (f := .glo "threshold_points") rfl)
  obtain ⟨fd_threshold_points, W_threshold_points⟩ := cd.def_ 26 (d := d_threshold_points) rfl
  have F_threshold_points : Fun K "threshold_points" "threshold_points" s_threshold_points (He.ga K "threshold_points") fd_threshold_points := funOf W_threshold_points
  have D_threshold_points : Df K mg "threshold_points" s_threshold_points ["start", "turns"] := ⟨_, _, F_threshold_points, g_threshold_points, F_threshold_points.binds fun _ _ _ _ _ _ us hl => match us, hl with | [_, _], _ => rfl⟩
  have g_turns_along : mg "_turns_along" = some (.ref (He.ga K "_turns_along")) := He.glo_ok X G (cd.fact 27 (f := .glo "_turns_along") rfl)
  obtain ⟨fd_turns_along, W_turns_along⟩ := cd.def_ 27 (d := d_turns_along) rfl
  have F_turns_along : Fun K "_turns_along" "_turns_along" s_turns_along (He.ga K "_turns_along") fd_turns_along := funOf W_turns_along
  have D_turns_along : Df K mg "_turns_along" s_turns_along ["linked"] := ⟨_, _, F_turns_along, g_turns_along, F_turns_along.binds fun _ _ _ _ _ _ us hl => match us, hl with | [_], _ => rfl⟩
  have g_turns_of : mg "turns_of" = some (.ref (He.ga K "turns_of")) := He.glo_ok X G (cd.fact 28 (f := .glo "turns_of") rfl)
  obtain ⟨fd_turns_of, W_turns_of⟩ := cd.def_ 28 (d := d_turns_of) rfl
  have F_turns_of : Fun K "turns_of" "turns_of" s_turns_of (He.ga K "turns_of") fd_turns_of := funOf W_turns_of
  have D_turns_of : Df K mg "turns_of" s_turns_of ["task"] := ⟨_, _, F_turns_of, g_turns_of, F_turns_of.binds fun _ _ _ _ _ _ us hl => match us, hl with | [_], _ => rfl⟩
  have g_best_threshold : mg "best_threshold" = some (.ref (He.ga K "best_threshold")) := He.glo_ok X G (cd.fact 29 (f := .glo "best_threshold") rfl)
  obtain ⟨fd_best_threshold, W_best_threshold⟩ := cd.def_ 29 (d := d_best_threshold) rfl
  have F_best_threshold : Fun K "best_threshold" "best_threshold" s_best_threshold (He.ga K "best_threshold") fd_best_threshold := funOf W_best_threshold
  have D_best_threshold : Df K mg "best_threshold" s_best_threshold ["task", "start"] := ⟨_, _, F_best_threshold, g_best_threshold, F_best_threshold.binds fun _ _ _ _ _ _ us hl => match us, hl with | [_, _], _ => rfl⟩
  have g_Lsum : mg "_law_sum" = some (.ref (He.ga K "_law_sum")) := He.glo_ok X G (cd.fact 30 (f := .glo "_law_sum") rfl)
  obtain ⟨fd_Lsum, W_Lsum⟩ := cd.def_ 30 (d := d_Lsum) rfl
  have F_Lsum : Fun K "_law_sum" "_law_sum" s_Lsum (He.ga K "_law_sum") fd_Lsum := funOf W_Lsum
  have D_Lsum : Df K mg "_law_sum" s_Lsum ["amounts", "values"] := ⟨_, _, F_Lsum, g_Lsum, F_Lsum.binds fun _ _ _ _ _ _ us hl => match us, hl with | [_, _], _ => rfl⟩
  have g_Lturned : mg "_law_turned" = some (.ref (He.ga K "_law_turned")) := He.glo_ok X G (cd.fact 31 (f := .glo "_law_turned") rfl)
  obtain ⟨fd_Lturned, W_Lturned⟩ := cd.def_ 31 (d := d_Lturned) rfl
  have F_Lturned : Fun K "_law_turned" "_law_turned" s_Lturned (He.ga K "_law_turned") fd_Lturned := funOf W_Lturned
  have D_Lturned : Df K mg "_law_turned" s_Lturned ["values", "turns"] := ⟨_, _, F_Lturned, g_Lturned, F_Lturned.binds fun _ _ _ _ _ _ us hl => match us, hl with | [_, _], _ => rfl⟩
  have g_Lkeeps : mg "_law_keeps" = some (.ref (He.ga K "_law_keeps")) := He.glo_ok X G (cd.fact 32 (f := .glo "_law_keeps") rfl)
  obtain ⟨fd_Lkeeps, W_Lkeeps⟩ := cd.def_ 32 (d := d_Lkeeps) rfl
  have F_Lkeeps : Fun K "_law_keeps" "_law_keeps" s_Lkeeps (He.ga K "_law_keeps") fd_Lkeeps := funOf W_Lkeeps
  have D_Lkeeps : Df K mg "_law_keeps" s_Lkeeps ["unknowns", "rows", "point"] := ⟨_, _, F_Lkeeps, g_Lkeeps, F_Lkeeps.binds fun _ _ _ _ _ _ us hl => match us, hl with | [_, _, _], _ => rfl⟩
  have g_Lare_turns : mg "_law_are_turns" = some (.ref (He.ga K "_law_are_turns")) := He.glo_ok X G (cd.fact 33 (f := .glo "_law_are_turns") rfl)
  obtain ⟨fd_Lare_turns, W_Lare_turns⟩ := cd.def_ 33 (d := d_Lare_turns) rfl
  have F_Lare_turns : Fun K "_law_are_turns" "_law_are_turns" s_Lare_turns (He.ga K "_law_are_turns") fd_Lare_turns := funOf W_Lare_turns
  have D_Lare_turns : Df K mg "_law_are_turns" s_Lare_turns ["told", "many"] := ⟨_, _, F_Lare_turns, g_Lare_turns, F_Lare_turns.binds fun _ _ _ _ _ _ us hl => match us, hl with | [_, _], _ => rfl⟩
  have g_Lfit : mg "_law_fit" = some (.ref (He.ga K "_law_fit")) := He.glo_ok X G (cd.fact 34 (f := .glo "_law_fit") rfl)
  obtain ⟨fd_Lfit, W_Lfit⟩ := cd.def_ 34 (d := d_Lfit) rfl
  have F_Lfit : Fun K "_law_fit" "_law_fit" s_Lfit (He.ga K "_law_fit") fd_Lfit := funOf W_Lfit
  have D_Lfit : Df K mg "_law_fit" s_Lfit ["wishes", "turns"] := ⟨_, _, F_Lfit, g_Lfit, F_Lfit.binds fun _ _ _ _ _ _ us hl => match us, hl with | [_, _], _ => rfl⟩
  have g_Lsome_fit : mg "_law_some_fit" = some (.ref (He.ga K "_law_some_fit")) := He.glo_ok X G (cd.fact 35 (f := .glo "_law_some_fit") rfl)
  obtain ⟨fd_Lsome_fit, W_Lsome_fit⟩ := cd.def_ 35 (d := d_Lsome_fit) rfl
  have F_Lsome_fit : Fun K "_law_some_fit" "_law_some_fit" s_Lsome_fit (He.ga K "_law_some_fit") fd_Lsome_fit := funOf W_Lsome_fit
  have D_Lsome_fit : Df K mg "_law_some_fit" s_Lsome_fit ["wishes", "many"] := ⟨_, _, F_Lsome_fit, g_Lsome_fit, F_Lsome_fit.binds fun _ _ _ _ _ _ us hl => match us, hl with | [_, _], _ => rfl⟩
  have g_Lrow : mg "_law_row" = some (.ref (He.ga K "_law_row")) := He.glo_ok X G (cd.fact 36 (f := .glo "_law_row") rfl)
  obtain ⟨fd_Lrow, W_Lrow⟩ := cd.def_ 36 (d := d_Lrow) rfl
  have F_Lrow : Fun K "_law_row" "_law_row" s_Lrow (He.ga K "_law_row") fd_Lrow := funOf W_Lrow
  have D_Lrow : Df K mg "_law_row" s_Lrow ["deal", "turns", "values"] := ⟨_, _, F_Lrow, g_Lrow, F_Lrow.binds fun _ _ _ _ _ _ us hl => match us, hl with | [_, _, _], _ => rfl⟩
  have g_Lright : mg "_law_right" = some (.ref (He.ga K "_law_right")) := He.glo_ok X G (cd.fact 37 (f := .glo "_law_right") rfl)
  obtain ⟨fd_Lright, W_Lright⟩ := cd.def_ 37 (d := d_Lright) rfl
  have F_Lright : Fun K "_law_right" "_law_right" s_Lright (He.ga K "_law_right") fd_Lright := funOf W_Lright
  have D_Lright : Df K mg "_law_right" s_Lright ["task", "turns", "start", "values"] := ⟨_, _, F_Lright, g_Lright, F_Lright.binds fun _ _ _ _ _ _ us hl => match us, hl with | [_, _, _, _], _ => rfl⟩
  have g_Lbest : mg "_law_best" = some (.ref (He.ga K "_law_best")) := He.glo_ok X G (cd.fact 38 (f := .glo "_law_best") rfl)
  obtain ⟨fd_Lbest, W_Lbest⟩ := cd.def_ 38 (d := d_Lbest) rfl
  have F_Lbest : Fun K "_law_best" "_law_best" s_Lbest (He.ga K "_law_best") fd_Lbest := funOf W_Lbest
  have D_Lbest : Df K mg "_law_best" s_Lbest ["task", "turns", "start", "values"] := ⟨_, _, F_Lbest, g_Lbest, F_Lbest.binds fun _ _ _ _ _ _ us hl => match us, hl with | [_, _, _, _], _ => rfl⟩
  have g_Lsharp : mg "_law_sharp" = some (.ref (He.ga K "_law_sharp")) := He.glo_ok X G (cd.fact 39 (f := .glo "_law_sharp") rfl)
  obtain ⟨fd_Lsharp, W_Lsharp⟩ := cd.def_ 39 (d := d_Lsharp) rfl
  have F_Lsharp : Fun K "_law_sharp" "_law_sharp" s_Lsharp (He.ga K "_law_sharp") fd_Lsharp := funOf W_Lsharp
  have D_Lsharp : Df K mg "_law_sharp" s_Lsharp ["deal", "task", "start", "values"] := ⟨_, _, F_Lsharp, g_Lsharp, F_Lsharp.binds fun _ _ _ _ _ _ us hl => match us, hl with | [_, _, _, _], _ => rfl⟩
  have g_Lspoilt : mg "_law_spoilt" = some (.ref (He.ga K "_law_spoilt")) := He.glo_ok X G (cd.fact 40 (f := .glo "_law_spoilt") rfl)
  obtain ⟨fd_Lspoilt, W_Lspoilt⟩ := cd.def_ 40 (d := d_Lspoilt) rfl
  have F_Lspoilt : Fun K "_law_spoilt" "_law_spoilt" s_Lspoilt (He.ga K "_law_spoilt") fd_Lspoilt := funOf W_Lspoilt
  have D_Lspoilt : Df K mg "_law_spoilt" s_Lspoilt ["deal", "many", "rows"] := ⟨_, _, F_Lspoilt, g_Lspoilt, F_Lspoilt.binds fun _ _ _ _ _ _ us hl => match us, hl with | [_, _, _], _ => rfl⟩
  have g_law : mg "law" = some (.ref (He.ga K "law")) := He.glo_ok X G (cd.fact 41 (f := .glo "law") rfl)
  obtain ⟨fd_law, W_law⟩ := cd.def_ 41 (d := d_law) rfl
  have F_law : Fun K "law" "law" s_law (He.ga K "law") fd_law := funOf W_law
  have g_Task : mg "Task" = some (.ref (He.ga K "Task")) := He.glo_ok X G (cd.fact 42 (f := .glo "Task") rfl)
  have g_WORDS : mg "WORDS" = some (.ref (He.ga K "WORDS")) := He.glo_ok X G (cd.fact 43 (f := .glo "WORDS") rfl)
  have g_WISH_TESTS : mg "WISH_TESTS" = some (.ref (He.ga K "WISH_TESTS")) := He.glo_ok X G (cd.fact 44 (f := .glo "WISH_TESTS") rfl)
  obtain ⟨t2, z_LONG⟩ := He.int_ok X G (cd.fact 45 (f := .int "LONGEST_NAME" 6) rfl)
  obtain ⟨t3, z_LETT⟩ := He.str_ok X G (cd.fact 46 (f := .str "LETTERS" "abcdefghijklmnopqrstuvwxyz") rfl)
  have cT : Cls K (He.ga K "Task") := He.cls_ok (cd.fact 47 (f := .cls "Task") rfl)
  have n_unknowns : NoAttr K (He.ga K "Task") "unknowns" := He.noat_ok (cd.fact 48 (f := .noat "Task" "unknowns") rfl)
  have n_wishes : NoAttr K (He.ga K "Task") "wishes" := He.noat_ok (cd.fact 49 (f := .noat "Task" "wishes") rfl)
  have n_goal : NoAttr K (He.ga K "Task") "goal" := He.noat_ok (cd.fact 50 (f := .noat "Task" "goal") rfl)
  have mT : Mk K (He.ga K "Task") (He.ma K (He.ga K "Task") "__init__") := He.mkr_ok (cd.fact 51 (f := .mkr "Task") rfl)
  have z_len : mg "len" = none := He.free_ok X G (cd.fact 52 (f := .free "len") rfl)
  have z_range : mg "range" = none := He.free_ok X G (cd.fact 53 (f := .free "range") rfl)
  have z_int : mg "int" = none := He.free_ok X G (cd.fact 54 (f := .free "int") rfl)
  have z_abs : mg "abs" = none := He.free_ok X G (cd.fact 55 (f := .free "abs") rfl)
  have z_all : mg "all" = none := He.free_ok X G (cd.fact 56 (f := .free "all") rfl)
  have z_sum : mg "sum" = none := He.free_ok X G (cd.fact 57 (f := .free "sum") rfl)
  have z_repr : mg "repr" = none := He.free_ok X G (cd.fact 58 (f := .free "repr") rfl)
  have z_tuple : mg "tuple" = none := He.free_ok X G (cd.fact 59 (f := .free "tuple") rfl)
  have z_bool : mg "bool" = none := He.free_ok X G (cd.fact 60 (f := .free "bool") rfl)
  have z_str : mg "str" = none := He.free_ok X G (cd.fact 61 (f := .free "str") rfl)
  have z_zip : mg "zip" = none := He.free_ok X G (cd.fact 62 (f := .free "zip") rfl)
  have z_any : mg "any" = none := He.free_ok X G (cd.fact 63 (f := .free "any") rfl)
  have z_set : mg "set" = none := He.free_ok X G (cd.fact 64 (f := .free "set") rfl)
  have z_enumerate : mg "enumerate" = none := He.free_ok X G (cd.fact 65 (f := .free "enumerate") rfl)
  have z_isinstance : mg "isinstance" = none := He.free_ok X G (cd.fact 66 (f := .free "isinstance") rfl)
  have z_sorted : mg "sorted" = none := He.free_ok X G (cd.fact 67 (f := .free "sorted") rfl)
  have z_min : mg "min" = none := He.free_ok X G (cd.fact 68 (f := .free "min") rfl)
  have z_max : mg "max" = none := He.free_ok X G (cd.fact 69 (f := .free "max") rfl)
  obtain ⟨fd_Ti, W_Ti⟩ := cd.def_ 42 (d := d_Ti) rfl
  have F_Ti : Fun K "__init__" "Task.__init__" s_Task_init (He.ma K (He.ga K "Task") "__init__") fd_Ti := funOf W_Ti
  have B_Ti : Binds K fd_Ti ["self", "unknowns", "wishes", "goal"] [] := F_Ti.binds fun _ _ _ _ _ _ us hl => match us, hl with | [_, _, _, _], _ => rfl
  obtain ⟨es, nn, kd⟩ := c.t.tab 0 (t := (fun K => He.ga K "WISH_TESTS", ["sum", "unlike", "table", "either", "bench", "room", "round"])) rfl
  have kd : L2.KDict K w (He.ga K "WISH_TESTS") es nn := kd
  have T : Txt K mg w (He.ga K "WORDS") (He.ga K "WISH_TESTS") es nn := ⟨z_len, z_range, z_int, z_abs, z_all, z_sum, z_repr, z_tuple, z_bool, z_str, z_zip, z_any, z_set, z_enumerate, z_isinstance, z_sorted, z_gcd, z_lcm, ⟨_, z_LONG, ⟨_, rfl⟩⟩, ⟨_, z_LETT, ⟨_, rfl⟩⟩, ⟨_, g_WORDS, rfl⟩, ⟨_, g_WISH_TESTS, rfl⟩, fun H => tupB_ok x3 H, kd⟩
  have CCt : CC K (He.ga K "Task") := ⟨cT, n_unknowns, n_wishes, n_goal⟩
  have efa : fa = He.ga K "law" := by
    have e := hfa.symm.trans g_law
    cases e
    rfl
  subst efa
  obtain ⟨u0, e0, r0⟩ := He.valsB_ok x4 (q := ("sum", .glo "_is_sum")) (List.mem_cons_self ..)
  obtain ⟨u1, e1, r1⟩ := He.valsB_ok x4 (q := ("unlike", .glo "_is_unlike")) (List.mem_cons_of_mem _ (List.mem_cons_self ..))
  obtain ⟨u2, e2, r2⟩ := He.valsB_ok x4 (q := ("bench", .glo "_is_bench")) (List.mem_cons_of_mem _ (List.mem_cons_of_mem _ (List.mem_cons_self ..)))
  obtain ⟨u3, e3, r3⟩ := He.valsB_ok x4 (q := ("table", .glo "_is_table")) (List.mem_cons_of_mem _ (List.mem_cons_of_mem _ (List.mem_cons_of_mem _ (List.mem_cons_self ..))))
  refine ⟨fd_law, [], spLaw K, (fun p hp => by cases hp), (fun p hp => by cases hp), (fun p hp => by cases hp), ?_, ?_, ?_⟩
  · intro s u
    obtain ⟨oc, od, kV, doc, pm, an, cdv, ct, osl, rfl, lk, hc⟩ := F_law.ex
    exact .of_eq rfl
  · intro H a ns hl _ hH hS
    exact ⟨a, ns, rfl, hS, hl, fun _ => rfl⟩
  · intro base _ _ TB
    have h0 : CX0 = CX0 ∨ CX0 = L2.CX l.prog w := .inl rfl
    have a_is_whole : Cal l.prog w K mg base 1 "is_whole" spWhole [] := cal_of D_is_whole fun _ _ F => ok_is_whole F T
    have a_is_places : Cal l.prog w K mg base 2 "is_places" spPlaces [] := cal_of D_is_places fun _ _ F => ok_is_places F T a_is_whole
    have a_is_integers : Cal l.prog w K mg base 2 "is_integers" spInts [] := cal_of D_is_integers fun _ _ F => ok_is_integers F T a_is_whole
    have a_is_lot_of_places : Cal l.prog w K mg base 3 "is_lot_of_places" spLot [] := cal_of D_is_lot_of_places fun _ _ F => ok_is_lot_of_places F T a_is_places
    have a_is_unlike : Cal l.prog w K mg base 4 "_is_unlike" spUnlike [] := cal_of D_is_unlike fun _ _ F => ok_is_unlike F T a_is_lot_of_places
    have a_is_jobs : Cal l.prog w K mg base 4 "_is_jobs" spJobs [] := cal_of D_is_jobs fun _ _ F => ok_is_jobs F T a_is_integers a_is_lot_of_places
    have a_is_bench : Cal l.prog w K mg base 5 "_is_bench" spBench [] := cal_of D_is_bench fun _ _ F => ok_is_bench F T a_is_jobs
    have a_is_sum : Cal l.prog w K mg base 4 "_is_sum" spSum [] := cal_of D_is_sum fun _ _ F => ok_is_sum F T a_is_whole a_is_integers
    have a_is_table : Cal l.prog w K mg base 4 "_is_table" spTable [] := cal_of D_is_table fun _ _ F => ok_is_table F T a_is_places a_is_integers
    have TS : Tst l.prog w K mg base (He.ga K "WISH_TESTS") (He.ga K "_is_sum") (He.ga K "_is_unlike") (He.ga K "_is_bench") (He.ga K "_is_table") :=
      ⟨⟨_, _, (ok_is_sum F_is_sum T a_is_whole a_is_integers).mono (by decide), F_is_sum.kp, F_is_sum.binds fun _ _ _ _ _ _ us hl => match us, hl with | [_, _], _ => rfl⟩, ⟨_, _, (ok_is_unlike F_is_unlike T a_is_lot_of_places).mono (by decide), F_is_unlike.kp, F_is_unlike.binds fun _ _ _ _ _ _ us hl => match us, hl with | [_, _], _ => rfl⟩, ⟨_, _, ok_is_bench F_is_bench T a_is_jobs, F_is_bench.kp, F_is_bench.binds fun _ _ _ _ _ _ us hl => match us, hl with | [_, _], _ => rfl⟩, ⟨_, _, (ok_is_table F_is_table T a_is_places a_is_integers).mono (by decide), F_is_table.kp, F_is_table.binds fun _ _ _ _ _ _ us hl => match us, hl with | [_, _], _ => rfl⟩, ⟨_, _, u0, kd.at_, kd.lit, e0, r0⟩, ⟨_, _, u1, kd.at_, kd.lit, e1, r1⟩, ⟨_, _, u2, kd.at_, kd.lit, e2, r2⟩, ⟨_, _, u3, kd.at_, kd.lit, e3, r3⟩, x5⟩
    have a_is_wish : Cal l.prog w K mg base 6 "is_wish" spWish [] := cal_of D_is_wish fun _ _ F => ok_is_wish F T TS
    have a_is_name : Cal l.prog w K mg base 1 "is_name" spName [] := cal_of D_is_name fun _ _ F => ok_is_name F T
    have a_is_pair : Cal l.prog w K mg base 2 "is_pair" spPair [] := cal_of D_is_pair fun _ _ F => ok_is_pair F T a_is_whole
    have a_is_unknown : Cal l.prog w K mg base 3 "_is_unknown" spUnknown [] := cal_of D_is_unknown fun _ _ F => ok_is_unknown F T a_is_name a_is_pair
    have a_check_unknowns : Cal l.prog w K mg base 4 "_check_unknowns" spChU [] := cal_of D_check_unknowns fun _ _ F => ok_check_unknowns F T a_is_unknown
    have a_check_wishes : Cal l.prog w K mg base 7 "_check_wishes" spChW [] := cal_of D_check_wishes fun _ _ F => ok_check_wishes F T a_is_wish
    have a_check_goal : Cal l.prog w K mg base 2 "_check_goal" spChG [] := cal_of D_check_goal fun _ _ F => ok_check_goal F T a_is_whole
    have mkT : Mak l.prog w K mg base 8 "Task" (He.ga K "Task") (spTask (He.ga K "Task")) [] := ⟨_, _, _, [], mT, ok_Task_init F_Ti cT ⟨n_unknowns, n_wishes, n_goal⟩ T a_check_unknowns a_check_wishes a_check_goal, g_Task, B_Ti, .nil⟩
    have a_Lany : Cal l.prog w K mg base 1 "_law_any" spDraw [] := cal_of D_Lany fun _ _ F => ok_draw F T
    have a_Ldraw : Cal l.prog w K mg base 1 "_law_draw" (spHeap K) [] := cal_of D_Ldraw fun _ _ F => ok_heap F T
    have a_Lof : Cal l.prog w K mg base 2 "_law_of" spPickL [] := cal_of D_Lof fun _ _ F => ok_pickL F T a_Lany
    have a_Llow : Cal l.prog w K mg base 1 "_law_low" spLow [] := cal_of D_Llow fun _ _ F => ok_low F T
    have a_fraction_of : Cal l.prog w K mg base 1 "fraction_of" spFrac [] := cal_of D_fraction_of fun _ _ F => ok_fraction_of F T
    have a_is_less : Cal l.prog w K mg base 1 "is_less" spLess [] := cal_of D_is_less fun _ _ F => ok_is_less F T
    have a_total_of : Cal l.prog w K mg base 1 "total_of" spTotal [] := cal_of D_total_of fun _ _ F => ok_total_of F T
    have a_worth : Cal l.prog w K mg base 2 "worth" spTotal [] := cal_of D_worth fun _ _ F => ok_worth F T a_total_of
    have a_named_by : Cal l.prog w K mg base 1 "named_by" spNamed [] := cal_of D_named_by fun _ _ F => ok_named_by F T
    have a_rounded_at : Cal l.prog w K mg base 2 "rounded_at" spRat [] := cal_of D_rounded_at fun _ _ F => ok_rounded_at F T a_is_less
    have k_rounded_at_threshold_turns_start : CalK l.prog w K mg base 2 "rounded_at" ["threshold", "turns", "start"] rv3 spRat := mkK3 F_rounded_at (ok_rounded_at F_rounded_at T a_is_less) h0 g_rounded_at fun _ _ _ _ _ _ _ _ _ => rfl
    have a_threshold_points : Cal l.prog w K mg base 3 "threshold_points" spThr [] := cal_of D_threshold_points fun _ _ F => ok_threshold_points F T a_fraction_of a_rounded_at
    have k_threshold_points_turns_start : CalK l.prog w K mg base 3 "threshold_points" ["turns", "start"] sw spThr := mkK2 F_threshold_points (ok_threshold_points F_threshold_points T a_fraction_of a_rounded_at) h0 g_threshold_points fun _ _ _ _ _ _ _ _ => rfl
    have a_turns_along : Cal l.prog w K mg base 1 "_turns_along" spAlong [] := cal_of D_turns_along fun _ _ F => ok_turns_along F T
    have a_turns_of : Cal l.prog w K mg base 2 "turns_of" (spTurns (He.ga K "Task")) [] := cal_of D_turns_of fun _ _ F => ok_turns_of F T CCt a_named_by a_turns_along
    have k_turns_of_task : CalK l.prog w K mg base 2 "turns_of" ["task"] id (spTurns (He.ga K "Task")) := mkK1 F_turns_of (ok_turns_of F_turns_of T CCt a_named_by a_turns_along) h0 g_turns_of fun _ _ _ _ _ _ _ => rfl
    have a_best_threshold : Cal l.prog w K mg base 4 "best_threshold" (spBest (He.ga K "Task")) [] := cal_of D_best_threshold fun _ _ F => ok_best_threshold F T CCt a_turns_of a_threshold_points a_worth
    have k_best_threshold_start_task : CalK l.prog w K mg base 4 "best_threshold" ["start", "task"] sw (spBest (He.ga K "Task")) := mkK2 F_best_threshold (ok_best_threshold F_best_threshold T CCt a_turns_of a_threshold_points a_worth) h0 g_best_threshold fun _ _ _ _ _ _ _ _ => rfl
    have a_Lsum : Cal l.prog w K mg base 1 "_law_sum" spLSum [] := cal_of D_Lsum fun _ _ F => ok_Lsum F T
    have a_Lturned : Cal l.prog w K mg base 1 "_law_turned" spTurned [] := cal_of D_Lturned fun _ _ F => ok_Lturned F T
    have a_Lkeeps : Cal l.prog w K mg base 2 "_law_keeps" spKeeps [] := cal_of D_Lkeeps fun _ _ F => ok_Lkeeps F T a_Lsum
    have a_Lare_turns : Cal l.prog w K mg base 1 "_law_are_turns" spAre [] := cal_of D_Lare_turns fun _ _ F => ok_Lare F T
    have a_Lfit : Cal l.prog w K mg base 1 "_law_fit" spFit [] := cal_of D_Lfit fun _ _ F => ok_Lfit F T
    have a_Lsome_fit : Cal l.prog w K mg base 2 "_law_some_fit" spSome [] := cal_of D_Lsome_fit fun _ _ F => ok_Lsome F T a_Lfit
    have a_Lrow : Cal l.prog w K mg base 3 "_law_row" spLRow [] := cal_of D_Lrow fun _ _ F => ok_Lrow F T a_Lany a_Lof a_Lsum
    have a_Lright : CalG l.prog w K mg base 4 "_law_right" (spRight (He.ga K "Task")) := ⟨_, _, _, ok_Lright F_Lright T CCt a_Lturned a_Llow a_Lkeeps k_threshold_points_turns_start, g_Lright, F_Lright.kp, F_Lright.binds fun _ _ _ _ _ _ us hl => match us, hl with | [_, _, _, _], _ => rfl⟩
    have a_Lbest : CalG l.prog w K mg base 5 "_law_best" (spLBest (He.ga K "Task")) := ⟨_, _, _, ok_Lbest F_Lbest T CCt a_Lturned a_Lsum k_best_threshold_start_task, g_Lbest, F_Lbest.kp, F_Lbest.binds fun _ _ _ _ _ _ us hl => match us, hl with | [_, _, _, _], _ => rfl⟩
    have a_Lsharp : CalG l.prog w K mg base 10 "_law_sharp" (spSharp (He.ga K "Task")) := ⟨_, _, _, ok_Lsharp F_Lsharp T CCt mkT a_Lany a_Lsum a_turns_of a_best_threshold a_Lbest, g_Lsharp, F_Lsharp.kp, F_Lsharp.binds fun _ _ _ _ _ _ us hl => match us, hl with | [_, _, _, _], _ => rfl⟩
    have a_Lspoilt : Cal l.prog w K mg base 3 "_law_spoilt" spSpoilt [] := cal_of D_Lspoilt fun _ _ F => ok_Lspoilt F T z_min z_max a_Lany a_Lof
    have LC : LawC l.prog w K mg base (He.ga K "Task") := ⟨a_Ldraw, a_Lany, a_Lof, a_Llow, a_Lrow, a_Lkeeps, a_Lare_turns, a_Lfit, a_Lsome_fit, a_Lspoilt, a_Lright, a_Lbest, a_Lsharp, mkT, a_turns_of, a_best_threshold, k_turns_of_task, k_rounded_at_threshold_turns_start⟩
    exact ok_law F_law T CCt LC
end M57

open PySem PySem.W PySem.Calls PyProof.Rows
set_option maxHeartbeats 0 in
theorem PySem.Challenge.cw_paperbest_k57_whole_thresholds_of_differ_holds : PySem.Challenge.rw_paperbest_k57_whole_thresholds_of_differ.Holds := by
  w_on; o_law; k_head; (case hw => w_witness2)
  refine Gd.walk_ofG (l := PySem.Challenge.rw_paperbest_k57_whole_thresholds_of_differ) (n := 63) (k := 11) (x := "script") rfl (by decide) (by kernel_rfl) ⟨rfl, by decide, by decide⟩ ?F
  case F =>
    intro w mg fa h Y G hmg
    exact ⟨_, kIn_of Y, M57.facts (kIn_of Y) G hmg ⟨by show He.obsT _ _ _ _ = He.valT _ _ _; kernel_rfl, by kernel_rfl, (fun p hp => by cases hp), (fun p hp => by cases hp), (fun p hp => by cases hp)⟩⟩
