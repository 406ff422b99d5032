import PyProof.Rows.All
import Wide.All
import OpenK.AllK
import Wide.FinOn
import HandS.ForMost
import HandS.Exc
import HandS.WordsExc
import HandS.Codes
import HandS.IsInst
import HandS.Style
import HandS.TupAny
import HandS.TupLe
import HandS.Gcd
import HandS.Zip
import HandS.Deep
import HandS.Wide
import HandS.WideBits
import HandS.ExcInit
import HandS.ExcField
import HandS.TryMany
import HandS.Lambda
import HandS.EndTab
import HandS.Defaults
import HandS.HeadHook1
import HandS.HeadHook2
import HandS.HeadHook3
import HandS.HeadHook4
import KE.KExcIs
import PyProof.ReprRoads
import PyProof.ReprReads
import HandS.Base
import HandS.Call
import HandS.List
import HandS.TupMul
import HandS.Iter
import KE.GoesEnum
import KE.KMathG
import HandS.Head0
import HandS.Head1
import HandS.Head2
import HandS.Head3
import HandS.HeadEnd
import HandS.HeadWalk
import HandS.Comp
import KE.GoesMore
import KE.GoesZip
import KE.KDictZip
import HandS.SetFor
import HandS.Conv
import HandS.Strs
import PyProof.Rows.SortShellAny
import KE.SortKeyHeap
import KE.KSortKey
import HandS.Keys
import HandS.SortKw
import HandS.Words
import HandS.Sort
import HandS.More
import HandS.CallLocal
import HandS.Rev
import HandS.Small
import HandS.Dict
import HandS.Text
import HandS.Walk
import PySem.Challenge.RW_paperbest_k12_whole_hours_and_seats
import HandS.ExcIs
import KE.KStateDown
import KE.KNestM
set_option Elab.async false
set_option linter.all false
set_option maxRecDepth 100000
set_option maxHeartbeats 8000000
/-! What the proofs of several laws share: own errors, isinstance of them, calls that may raise or go by keywords, try with named clauses, tables of code objects, the source of draws. -/
namespace Own
open PySem PySem.Spec PyProof.Rows L2
open C8 (Cal pe_c pe_gc pss_cut)
/-! ### own errors -/
/-- what the text says of an error's class: its name x, its class object at C, its __init__ at fI -/
structure ExT (K : PySem.W.Frag) (mg : Str → Option Value) (x : Str) (C fI : Addr) : Prop where
  oex : OexC K C
  iC : PySem.W.findIn K (.ref C) "__init__" = some (some (.ref fI))
  tI : PySem.W.typeIn K (.ref fI) = some (.type "function")
  gC : mg x = some (.ref C)
  xf : XfC K C
  noW : PySem.W.findIn K (.ref C) "word" = some none
/-- the fresh exception at a gets its word y: its dict stands at d -/
def exoHp (H : Hp) (a C d : Addr) (y : V) : Hp := upd (upd H d (exd d [("word", y)])) a (exo a C (some d))
def spInit (K : PySem.W.Frag) : Sp := fun vs H Q _ => ∃ (a C : Addr) (y : V), vs = [.ref a, y] ∧ OexC K C ∧ PySem.W.findIn K (.ref C) "word" = some none ∧ H a = some (exo a C none) ∧ ∀ d, H d = none → d ≠ a → Q .non (exoHp H a C d y)
/-- the class x at C with its __init__ -/
structure ExK (P : Program) (w : World) (K : PySem.W.Frag) (mg : Str → Option Value) (base : Heap) (x : Str) (C : Addr) : Prop where
  ex : ∃ (fI : Addr) (fd : FuncData), ExT K mg x C fI ∧ FnOk P w K mg base CX0 1 fI fd ["self", "word"] (spInit K) ∧ Binds K fd ["self", "word"] []
theorem ExK.T {P : Program} {w : World} {K : PySem.W.Frag} {mg : Str → Option Value} {base : Heap} {x : Str} {C : Addr} (c : ExK P w K mg base x C) : ∃ fI, ExT K mg x C fI := by
  obtain ⟨fI, fd, T, _⟩ := c.ex
  exact ⟨fI, T⟩
theorem ExK.oex {P : Program} {w : World} {K : PySem.W.Frag} {mg : Str → Option Value} {base : Heap} {x : Str} {C : Addr} (c : ExK P w K mg base x C) : OexC K C := c.T.choose_spec.oex
theorem ExK.noW {P : Program} {w : World} {K : PySem.W.Frag} {mg : Str → Option Value} {base : Heap} {x : Str} {C : Addr} (c : ExK P w K mg base x C) : PySem.W.findIn K (.ref C) "word" = some none := c.T.choose_spec.noW
/-- a new exception with the word y -/
def MkE (K : PySem.W.Frag) (C : Addr) (y : V) (H1 : Hp) (Q : XK) : Prop := [y].length ≤ 1000 ∧ ∀ a, H1 a = none → spInit K (.ref a :: ([y] ++ [])) (upd H1 a (exo a C none))
  (fun v H2 => v = .non ∧ ∃ (d : Addr) (fs : List (Str × V)), H2 a = some (exo a C (some d)) ∧ H2 d = some (exd d fs) ∧ H1 d = none ∧ Q (.ref C) (some d) (upd (del H2 a) d (.xd fs))) (fun _ _ _ => False)
theorem mkE_of {K : PySem.W.Frag} {C : Addr} {y : V} {H1 : Hp} {Q : XK} (T : OexC K C) (no : PySem.W.findIn K (.ref C) "word" = some none) (h : ∀ d H2, Same H1 H2 → H2 d = some (.xd [("word", y)]) → Q (.ref C) (some d) H2) : MkE K C y H1 Q := by
  refine ⟨show (1 : Nat) ≤ 1000 from by decide, fun a na => ⟨a, C, y, rfl, T, no, upd_same, fun d nd ne => ⟨rfl, d, _, upd_same, ?_, ?_, h d _ ?_ upd_same⟩⟩⟩
  · unfold exoHp
    rw [upd_ne ne, upd_same]
  · rw [upd_ne ne] at nd; exact nd
  · rw [upd_ne ne] at nd
    intro b o e
    have b1 : b ≠ d := ne_of_none e nd
    have b2 : b ≠ a := ne_of_none e na
    unfold exoHp
    rw [upd_ne b1, del_ne b2, upd_ne b2, upd_ne b1, upd_ne b2]
    exact e
def tNewE (K : PySem.W.Frag) (C : Addr) (te : TE) : L2.St → Hp → XK → Prop := fun σ H Q => te σ H fun y H1 => MkE K C y H1 Q
section
variable {X : Cx} {x : Str} {C : Addr} {e : Expr} {te : TE} {p pos pos2 : Pos} {j : Nat}
theorem pmk_new (c : ExK X.prog X.w X.K X.mg X.base x C) (hr : Room j X.A) (hk : 2 ≤ j) (hg : Gl X x) (he : PE X e te) (hdb : (x == ("__debug__" : Str)) = false := by decide)
    (hs : starEach [e] X.env = (false, eval e X.env) :: starEach [] X.env := by rfl) (hpl : (backTo pos (starEach [] X.env)).any (·.1) = false := by rfl) : PMk X (.Call (.Name x p) [e] [] pos) (tNewE X.K C te) := by
  obtain ⟨fI, fd, T, F, b⟩ := c.ex
  exact pmk_oex T.oex T.iC T.tI F (hr.mono hk) b .nil pass0 hg T.gC (pa_cons he pa_nil hs) hdb hs hpl
/-- raise x(e) -/
def tRaiseE (K : PySem.W.Frag) (W : WX) (C : Addr) (te : TE) : TS := fun _ σ H => tNewE K C te σ H fun cls d H' => W cls d σ H'
theorem ps_raiseE {W : WX} (hc : X.calm = true) (tk : L2.Takes X W) (c : ExK X.prog X.w X.K X.mg X.base x C) (hr : Room j X.A) (hk : 2 ≤ j) (hg : Gl X x) (he : PE X e te) (hdb : (x == ("__debug__" : Str)) = false := by decide)
    (hs : starEach [e] X.env = (false, eval e X.env) :: starEach [] X.env := by rfl) (hpl : (backTo pos (starEach [] X.env)).any (·.1) = false := by rfl) : PS X (.Raise (some (.Call (.Name x p) [e] [] pos)) none pos2) (tRaiseE X.K W C te) :=
  ps_raise hc tk (pmk_new c hr hk hg he hdb hs hpl)
end
/-! ### an exception as a value -/
/-- x(e) as a value -/
def tValE (K : PySem.W.Frag) (C : Addr) (te : TE) : TE := fun σ H Q => te σ H fun y H1 => ∀ a d H2, Same H1 H2 → H1 a = none → H1 d = none → H2 a = some (exo a C (some d)) → H2 d = some (exd d [("word", y)]) → Q (.ref a) H2
section
variable {X : Cx} {x : Str} {C : Addr} {e : Expr} {te : TE} {p pos : Pos} {j : Nat}
theorem pe_newE (c : ExK X.prog X.w X.K X.mg X.base x C) (hr : Room j X.A) (hk : 2 ≤ j) (hg : Gl X x) (ha : PE X e te) (hdb : (x == ("__debug__" : Str)) = false := by decide)
    (he : starEach [e] X.env = (false, eval e X.env) :: starEach [] X.env := by rfl) (hpl : (backTo pos (starEach [] X.env)).any (·.1) = false := by rfl) : PE X (.Call (.Name x p) [e] [] pos) (tValE X.K C te) := by
  obtain ⟨fI, fd, T, F1, hb⟩ := c.ex
  have T0 := T.oex
  obtain ⟨nm, q, N, bs, bm, sn, sub, ab, col, dd, k0, k1, k2, k3, k5, hC, hbm⟩ := T0.cls
  refine ⟨fun pins s σ H Q I h => ?_⟩
  refine wpAny_Call_Name_kw (ld_glob I hg T.gC ?_ hdb)
  refine PySem.W.callWith_K (h₀ := X.base) I.ok.mod.kin T0.kC (thn ((pa_cons ha pa_nil he).run pos pins s σ H (fun vs H1 => match vs with | [y] => ∀ a d H2, Same H1 H2 → H1 a = none → H1 d = none → H2 a = some (exo a C (some d)) → H2 d = some (exd d [("word", y)]) → Q (.ref a) H2 | _ => False) I h) fun us s1 ⟨vs, H1, I1, r1, q1⟩ => ⟨I1.kIn, ?_⟩) he hpl
  obtain ⟨y, rfl⟩ : ∃ y, vs = [y] := by
    match vs, q1 with
    | [y], _ => exact ⟨y, rfl⟩
  replace q1 : ∀ a d H2, Same H1 H2 → H1 a = none → H1 d = none → H2 a = some (exo a C (some d)) → H2 d = some (exd d [("word", y)]) → Q (.ref a) H2 := q1
  show wpAny _ _ (call (.ref C) us) _ _ _
  obtain ⟨hp, g, dr, tk, os⟩ := s1
  have hsz : hp.objs.size ≤ hp.objs.size + 1 := Nat.le_succ _
  have hn : H1 (hp.objs.size + 1) = none := I1.hok.fresh hsz
  have kk : ∀ b o, hp.get? b = some o → ((hp.push (PySem.W.kdv_tup us)).push (PySem.HandSPX.excO C hp.objs.size)).get? b = some o := fun b o e => Heap.get?_push_of_some _ (Heap.get?_push_of_some _ e)
  have hget : ((hp.push (PySem.W.kdv_tup us)).push (PySem.HandSPX.excO C hp.objs.size)).get? (hp.objs.size + 1) = some (PySem.HandSPX.excO C hp.objs.size) := by heap_get
  have I2 : Inv X pins σ (upd H1 (hp.objs.size + 1) (exo (hp.objs.size + 1) C none)) ⟨(hp.push (PySem.W.kdv_tup us)).push (PySem.HandSPX.excO C hp.objs.size), g, dr, tk, os⟩ :=
    I1.laid (t' := tk) (a := hp.objs.size + 1) (o := exo (hp.objs.size + 1) C none) (h' := (hp.push (PySem.W.kdv_tup us)).push (PySem.HandSPX.excO C hp.objs.size)) kk hsz (exo_ok hget)
  have r2 : Vals [V.ref (hp.objs.size + 1), y] (Value.ref (hp.objs.size + 1) :: us) := .cons rfl r1
  have hl : (Value.ref (hp.objs.size + 1) :: us ++ []).length = 2 := by rw [List.append_nil]; exact r2.length.symm
  have hus : us.length ≤ sizeLine := by
    rw [← Paired.length r1, sizeLine_eq]
    exact (by decide : 1 ≤ 16777216)
  have hsp : spInit X.K [V.ref (hp.objs.size + 1), y] (upd H1 (hp.objs.size + 1) (exo (hp.objs.size + 1) C none)) (fun v H2 => v = .non ∧ ∃ d, H1 d = none ∧ Same H1 H2 ∧ H2 (hp.objs.size + 1) = some (exo (hp.objs.size + 1) C (some d)) ∧ H2 d = some (exd d [("word", y)])) (fun _ _ _ => False) := by
    refine ⟨_, C, y, rfl, T0, T.noW, upd_same, fun d nd ne => ⟨rfl, d, ?_, ?_, upd_same, ?_⟩⟩
    · rw [upd_ne ne] at nd; exact nd
    · rw [upd_ne ne] at nd
      intro b o e
      have b1 : b ≠ d := ne_of_none e nd
      have b2 : b ≠ hp.objs.size + 1 := ne_of_none e hn
      unfold exoHp
      rw [upd_ne b2, upd_ne b1, upd_ne b2]
      exact e
    · unfold exoHp
      rw [upd_ne ne, upd_same]
  refine wpAny_call (PySem.HandSPX.call_own F.excBase_ValueError (fun Y => PySem.HandSPX.refsVE_contains Y bm hbm) (I1.kIn _ _ hC) (PySem.W.looks_findIn I1.kIn T.iC) (fun self => PySem.W.bind_fn I1.kIn self T.tI) hus
    (codeAny_mono ((F1.mono (show 1 ≤ 1 from Nat.le_refl _)).run _ X.stack _ _ ⟨Value.ref (hp.objs.size + 1) :: us, []⟩ (Value.ref (hp.objs.size + 1) :: us ++ []) _ _ (fun _ _ _ => False) ((hr.mono hk).make C us []) (I2.env0.make C us []) (hb _ (Value.ref (hp.objs.size + 1) :: us) I2.kIn hl) (by rw [List.append_nil]; exact r2) hsp) fun r s' hq' => ?_))
  cases r with
  | error er => exact (show False from hq').elim
  | ok fl =>
    cases fl with
    | ret u =>
      obtain ⟨v, H2, os2, bare2, un2, hok2, rv, ev, d, nd, sm, ea, ed⟩ := hq'
      subst ev
      obtain ⟨h2, g2, d2, t2, os'⟩ := s'
      refine ⟨rv, ?_⟩
      have J := I2.call' (ch := []) os2 un2 hok2 bare2 (fun b z => absurd z (by simp))
      exact ⟨.ref (hp.objs.size + 1), H2, J, rfl, q1 _ d H2 sm hn nd ea ed⟩
    | next => exact False.elim hq'
    | brk => exact False.elim hq'
    | cont => exact False.elim hq'
end
theorem same_upd {H : Hp} {p : Addr} {o : HO} (h : H p = none) : Same H (upd H p o) := fun b x e => by
  rw [upd_ne (ne_of_none e h)]; exact e
theorem same_at {H0 H : Hp} {D : Addr} {o : HO} (s : Same H0 H) (n : H0 D = none) : Same H0 (upd H D o) := fun b x e => by
  rw [upd_ne (ne_of_none e n)]; exact s _ _ e
theorem sq_tup {K : PySem.W.Frag} {H : Hp} {p : Addr} {xs : List V} (h : H p = some (.tup xs)) : SqT K H p xs := .inl (.inl h)
theorem sq_lst {K : PySem.W.Frag} {H : Hp} {p : Addr} {xs : List V} (h : H p = some (.lst xs)) : SqL K H p xs := .inl (.inl h)
theorem ne_of {H : Hp} {a b : Addr} {x y : HO} (ha : H a = some x) (hb : H b = some y) (n : x ≠ y) : a ≠ b := fun z => by
  rw [z, hb] at ha
  exact n (Option.some.inj ha).symm
/-! ### isinstance, of own errors too -/
structure IsE (K : PySem.W.Frag) (C : Addr) : Prop where
  cl : (PySem.W.clsIn K C).isSome = true
  ga : PySem.W.findIn K (.ref C) "__getattribute__" = some (some (.builtin "BaseException.__getattribute__"))
  gg : PySem.W.findIn K (.ref C) "__getattr__" = some none
  exC : PySem.W.subIn K (.ref C) (.type "BaseException") = some true
  ha : PySem.W.findIn K (.ref C) "__class__" = some (some (.builtin "object.__class__"))
  hn : PySem.W.specialIn K (.builtin "object.__class__") "__get__" = some (some (.builtin "getset_descriptor.__get__"))
  htk : PySem.W.takesIn K (.builtin "object.__class__") = some true
  hm : PySem.W.mroIn K C (.type "object") = some true
inductive TyE (K : PySem.W.Frag) (H : Hp) : V → Value → Prop where
  | base {x : V} {t : Value} (h : TyX K H x t) : TyE K H x t
  | exc {a C d : Addr} {fs : List (Str × V)} (T : IsE K C) (e : H a = some (exo a C (some d))) (f : H d = some (exd d fs)) : TyE K H (.ref a) (.ref C)
def rIsE (K : PySem.W.Frag) : List V → Hp → VK → Prop := fun xs H Q => ∃ (x : V) (t : Value) (n : String) (b : Bool), xs = [x, .ty n] ∧ TyE K H x t ∧ PySem.W.kitOne K t (.type n) = some b ∧ Q (.bl b) H
section
variable {X : Cx}
theorem call_isE : CallR X (.builtin "isinstance") (rIsE X.K) := by
  intro pins s σ H xs us Q I r h
  obtain ⟨x, t, n, b, rfl, ty, e, q⟩ := h
  cases ty with
  | base ty => exact call_isi pins s σ H _ us Q I r ⟨x, .ty n, t, .type n, b, rfl, .ty n, ty, e, q⟩
  | @exc a C d fs T ea ed =>
    obtain ⟨u1, u2, rfl, r1, r2⟩ := vals2 r
    cases (show u1 = Value.ref a from r1)
    cases (show u2 = Value.type n from r2)
    obtain ⟨t1, ho⟩ := exo_at I.hok ea
    obtain ⟨mA, ⟨od, es, ep, hd, hrest⟩, rel⟩ := exd_at I.hok ed
    have J : PySem.W.InstAt s.heap a { cls := .ref C, dict := some d, data := .fields #[.ref t1, .none, .none, .none, .bool false, .none] } C (some od) := ⟨ho, rfl, rfl, hd⟩
    exact PySem.W.kia_one (PySem.W.kitx_exc T.cl T.ga T.gg T.exC T.ha T.hn T.htk T.hm) I.kIn J e (fun z => nomatch z) fun tk => ⟨.bl b, H, I.tok tk, rfl, q⟩
/-! ### // by any divisor but 0 -/
def CDivX (_ j : Int) : Prop := j ≠ 0 ∧ j.natAbs.log2 < 9000
theorem op_fdivX : OpR X (binaryOp .FloorDiv) (rI CDivX fun i j => .int (i.fdiv j)) := opI fun i j _ _ _ _ _ hc q => floordiv_int hc.1 q (.inl (PyProof.noPylong_of_log2 hc.2))
end
theorem divx_ok {i j : Int} {b : Nat} (h : j ≠ 0) (hb : j.natAbs < 2 ^ b) (h0 : 0 < b) (h9 : b ≤ 9000) : CDivX i j := ⟨h, Nat.lt_of_lt_of_le (PySem.Flt.log2_lt_of h0 hb) h9⟩
/-! ### calls -/
/-- a def that may raise -/
structure CalX (P : Program) (w : World) (K : PySem.W.Frag) (mg : Str → Option Value) (base : Heap) (k : Nat) (x : Str) (sp : Sp) : Prop where
  ex : ∃ (f : Addr) (fd : FuncData) (ps : List Str), FnOk P w K mg base (L2.CX P w) k f fd ps sp ∧ mg x = some (.ref f) ∧ PySem.W.keepIn K (.ref f) = true ∧ Binds K fd ps []
section
variable {X : Cx} {k j : Nat} {x : Str} {sp : Sp} {e : Expr} {es : List Expr} {t : TA} {p pos : Pos}
/-- x(..), where x raises nothing -/
theorem pe_x (c : CalX X.prog X.w X.K X.mg X.base k x sp) (hr : Room j X.A) (hk : k ≤ j) (hg : Gl X x) (ha : PA X (e :: es) t)
    (hdb : (x == ("__debug__" : Str)) = false := by decide) (he : starEach (e :: es) X.env = (false, eval e X.env) :: starEach es X.env := by rfl) (hpl : (backTo pos (starEach es X.env)).any (·.1) = false := by rfl) :
    PE X (.Call (.Name x p) (e :: es) [] pos) (tCall sp [] L2.E0 t) := by
  obtain ⟨f, fd, ps, F, hm, kp, b⟩ := c.ex
  exact pe_call F (hr.mono hk) hg hm kp b .nil passL ha hdb he hpl
/-- x(..), where what x raises goes on as E -/
theorem pe_xE {E : XK} (hx : Passes (L2.CX X.prog X.w) X E) (c : CalX X.prog X.w X.K X.mg X.base k x sp) (hr : Room j X.A) (hk : k ≤ j) (hg : Gl X x) (ha : PA X (e :: es) t)
    (hdb : (x == ("__debug__" : Str)) = false := by decide) (he : starEach (e :: es) X.env = (false, eval e X.env) :: starEach es X.env := by rfl) (hpl : (backTo pos (starEach es X.env)).any (·.1) = false := by rfl) :
    PE X (.Call (.Name x p) (e :: es) [] pos) (tCall sp [] E t) := by
  obtain ⟨f, fd, ps, F, hm, kp, b⟩ := c.ex
  exact pe_call F (hr.mono hk) hg hm kp b .nil hx ha hdb he hpl
end
/-- two, exchanged -/
def sw {α : Type} : List α → List α
  | [x, y] => [y, x]
  | _ => []
/-- a call with keywords alone -/
structure CalK (P : Program) (w : World) (K : PySem.W.Frag) (mg : Str → Option Value) (base : Heap) (k : Nat) (x : Str) (ks : List Str) (gV : List V → List V) (sp : Sp) : Prop where
  ex : ∃ (f : Addr) (fd : FuncData) (ps : List Str) (gu : List Value → List Value) (CX : CXT), (CX = CX0 ∨ CX = L2.CX P w) ∧ FnOk P w K mg base CX k f fd ps sp ∧ mg x = some (.ref f) ∧ PySem.W.keepIn K (.ref f) = true ∧
    (∀ (s : Shared) (ws : List Value), (gu ws).length = ps.length → BindsTo s fd ⟨[], ks.zip ws⟩ (ps.zip (gu ws))) ∧ ∀ (zs : List V) (ws : List Value), Vals zs ws → Vals (gV zs) (gu ws)
def tKw (sp : Sp) (gV : List V → List V) (E : XK) (tk : TA) : TE := fun σ H Q => tk σ H fun zs H1 => sp (gV zs) H1 Q E
section
variable {X : Cx} {k j : Nat} {x : Str} {ks : List Str} {gV : List V → List V} {sp : Sp} {p pos : Pos} {kws : List Keyword} {tk : TA}
theorem pe_kwE {E : XK} (hx : Passes (L2.CX X.prog X.w) X E) (c : CalK X.prog X.w X.K X.mg X.base k x ks gV sp) (hr : Room j X.A) (hk : k ≤ j) (hg : Gl X x) (hkw : PK X kws tk)
    (hall : (backToKw pos (keywordEach kws X.env)).all (·.1.isSome) = true := by rfl) (hks : (backToKw pos (keywordEach kws X.env)).filterMap (·.1) = ks := by rfl) (hdb : (x == ("__debug__" : Str)) = false := by decide)
    (hpl : ((backTo pos (starEach [] X.env)).any (·.1) || (backToKw pos (keywordEach kws X.env)).any (·.1.isNone)) = false := by rfl) : PE X (.Call (.Name x p) [] kws pos) (tKw sp gV E tk) := by
  obtain ⟨f, fd, ps, gu, CX, hC, F, hm, kp, bt, rel⟩ := c.ex
  refine ⟨fun pins s1 σ H Q I hh => wpAny_Call_Name_kw (ld_glob I hg hm ?_ hdb)⟩
  refine PySem.W.callWith_KW0 (h₀ := X.base) I.ok.mod.kin kp hall (thn (hkw.run pos pins s1 σ H _ I hh) fun ws s2 hz => ?_) hpl
  obtain ⟨zs, H2, I2, rz, q2⟩ := hz
  refine ⟨I2.kIn, ?_⟩
  rw [hks]
  have r2 := rel zs ws rz
  have hl : (gu ws).length = ps.length := r2.length.symm.trans (F.len _ _ _ _ q2)
  refine wpAny_call (codeAny_mono ((F.mono hk).run X.A X.stack s2 H2 ⟨[], ks.zip ws⟩ (gu ws) (gV zs) Q E hr I2.env0 (bt s2 ws hl) r2 q2) fun r s3 hq => ?_)
  cases r with
  | error e =>
    rcases hC with rfl | rfl
    · exact (show False from hq).elim
    · exact hx pins σ H2 s2 e s3 I2 hq
  | ok fl =>
    cases fl with
    | ret u => exact I2.after hq
    | next => exact hq.elim
    | brk => exact hq.elim
    | cont => exact hq.elim
theorem pe_kw (c : CalK X.prog X.w X.K X.mg X.base k x ks gV sp) (hr : Room j X.A) (hk : k ≤ j) (hg : Gl X x) (hkw : PK X kws tk)
    (hall : (backToKw pos (keywordEach kws X.env)).all (·.1.isSome) = true := by rfl) (hks : (backToKw pos (keywordEach kws X.env)).filterMap (·.1) = ks := by rfl) (hdb : (x == ("__debug__" : Str)) = false := by decide)
    (hpl : ((backTo pos (starEach [] X.env)).any (·.1) || (backToKw pos (keywordEach kws X.env)).any (·.1.isNone)) = false := by rfl) : PE X (.Call (.Name x p) [] kws pos) (tKw sp gV L2.E0 tk) := pe_kwE passL c hr hk hg hkw hall hks hdb hpl
end
/-- a def of the text, its name, how it binds -/
structure Df (K : PySem.W.Frag) (mg : Str → Option Value) (x : Str) (st : Stmt) (ps : List Str) : Prop where
  ex : ∃ f fd, Fun K x x st f fd ∧ mg x = some (.ref f) ∧ Binds K fd ps []
section
variable {P : Program} {w : World} {K : PySem.W.Frag} {mg : Str → Option Value} {base : Heap}
theorem cal_of {x : Str} {st : Stmt} {ps : List Str} {k : Nat} {sp : Sp} (D : Df K mg x st ps) (h : ∀ f fd, Fun K x x st f fd → FnOk P w K mg base CX0 k f fd ps sp) : Cal P w K mg base k x sp [] := by
  obtain ⟨f, fd, F, hm, b⟩ := D.ex
  exact ⟨f, fd, ps, [], h f fd F, hm, F.kp, b, .nil⟩
theorem calx_of {x : Str} {st : Stmt} {ps : List Str} {k : Nat} {sp : Sp} (D : Df K mg x st ps) (h : ∀ f fd, Fun K x x st f fd → FnOk P w K mg base (L2.CX P w) k f fd ps sp) : CalX P w K mg base k x sp := by
  obtain ⟨f, fd, F, hm, b⟩ := D.ex
  exact ⟨f, fd, ps, h f fd F, hm, F.kp, b⟩
end
/-! ### several clauses, each with the same name -/
abbrev Suite := Addr → Value → Option Addr → TS
/-- the ends behind a clause: its name is gone -/
def offName (i : Nat) (D : Ends) : Ends := { nx := fun σ H => D.nx (σ.set i none) H, rt := D.rt, bk := fun σ H => D.bk (σ.set i none) H, ct := fun σ H => D.ct (σ.set i none) H }
def wNamed (K : PySem.W.Frag) (i : Nat) (Wout : WX) (D : Ends) : List (Value × Suite) → WX
  | [] => Wout
  | z :: r => fun cls d σ H => ∃ b, PySem.W.exmOne K cls z.1 = some b ∧ (b = true → ∀ a, H a = none → i < σ.length → z.2 a cls d (offName i D) (σ.set i (some (.ref a))) H) ∧ (b = false → wNamed K i Wout D r cls d σ H)
inductive Clauses (X : Cx) (n : Str) : List ExceptHandler → List (Value × Suite) → Prop
  | nil : Clauses X n [] []
  | cons {x : Str} {c : Value} {ts : Suite} {b : Stmt} {bs : List Stmt} {p q : Pos} {hs : List ExceptHandler} {l : List (Value × Suite)} (nm : Names X x c)
      (su : ∀ (a : Addr) (oe : Obj) (cls : Value) (d : Option Addr) (pn : List (Addr × Obj)), Zc cls d oe → (∃ vs, oe.data = .fields vs) → PSs (X.suite a ((a, oe) :: pn)) (b :: bs) (ts a cls d)) (r : Clauses X n hs l) :
      Clauses X n (.ExceptHandler (some (.Name x p)) (some n) (b :: bs) q :: hs) ((c, ts) :: l)
section
variable {X : Cx} {pins : List (Addr × Obj)} {n : Str} {i : Nat} {Wout : WX} {D : Ends} {body : List Stmt} {tb : WX → TS} {pos : Pos}
/-- what flies has met no clause yet -/
theorem clauses_go (hs : X.stack = X.env :: X.outer) (hf : X.env.frame = some X.env.locals) (hN : X.N.Nodup) (hi : X.N[i]? = some n) (hl : X.env.kindOf n = some .local) (tk : L2.Takes X Wout)
    {a : Addr} {B : Heap} {cls : Value} {d : Option Addr} {σ : L2.St} {H : Hp} {s : Shared} {sI : Shared} (ok : X.Ok) (J : Inv X pins σ H sI) (nb : ∀ b o, sI.heap.get? b = some o → b ∉ frs X.stack → B.get? b = some o) (os : s.os = sI.os) (ag : AllBare s.gens) (na : H a = none)
    {h3 : Heap} (fl3 : HandSPX.FlyingZ B (X.env :: X.outer) a (Zc cls d) h3) (up3 : sI.heap.UpToSlots h3) : ∀ {hds : List ExceptHandler} {l : List (Value × Suite)}, Clauses X n hds l → wNamed X.K i Wout D l cls d σ H →
      wpAny (model X.prog X.w) X.A (handleBy (.ref a) X.env hds) (SP X pins D) X.xe { s with heap := h3 } := by
  have hfr : X.A.frames = some (X.env :: X.outer) := by rw [ok.frames, hs]
  have J3 : Inv X pins σ H { s with heap := h3 } := J.landed nb fl3.1 up3 os ag
  obtain ⟨oe, vs, he, hz, hd⟩ := id fl3.there
  have apart : a ∉ frs (X.env :: X.outer) := fun hm => by
    obtain ⟨_, o, e, hnf⟩ := fl3.2.2.1.mem hm
    rw [he] at e
    cases e
    exact hnf _ hd
  have nL : a ≠ X.env.locals := fun z => apart (List.mem_filterMap.mpr ⟨X.env, List.mem_cons_self, by rw [hf, z]⟩)
  have nF : a ∉ X.fs := fun hm => by
    obtain ⟨e, q1, q2⟩ := List.mem_filterMap.mp hm
    exact apart (List.mem_filterMap.mpr ⟨e, List.mem_cons_of_mem _ q1, q2⟩)
  have S3 := J3.suite he hd na nL nF
  have hlt : i < σ.length := by rw [J.len]; exact (List.getElem?_eq_some_iff.mp hi).1
  have LT : PySem.W.Looks (model X.prog X.w) h3 (typeOf (.ref a)) cls := fun A Q E s k q => wpAny_typeOf_ref (k _ _ he) (by rw [hz.1]; exact q)
  intro hds l C
  induction C with
  | nil =>
    intro w
    refine wpAny_handleBy_nil ?_
    obtain ⟨_, _, _, oe', vs', T, _, _, e1, _, e2, e3, _⟩ := id fl3
    unfold PySem.passOn
    refine wpAny_bind (wpAny_field e1 e2 e3 ?_)
    rw [if_neg (show ¬ ((Value.ref T == Value.none) = true) from by simp)]
    have fin : wpAny (model X.prog X.w) X.A (setFlight (.ref a) X.env.frame) (fun _ s4 => wpAny (model X.prog X.w) X.A (throw (.ref a) : Sem Flow) (SP X pins D) X.xe s4) X.xe { s with heap := h3 } := by
      rw [hf]
      exact HandSPX.setFlight_upZ fl3 fun h4 x4 up4 => wpAny_throw (tk _ _ ⟨a, B, sI, pins, σ, H, cls, d, rfl, J, nb, up3.trans up4, .inr (.inr (by rw [hs]; exact x4)), na, os, ag, w⟩)
    first
      | exact wpAny_bind (wpAny_pure (wpAny_bind fin))
      | exact wpAny_bind fin
  | @cons x c ts b0 bs p q hds' l' nm su r ih =>
    intro w
    obtain ⟨b, hb, yes, no⟩ := w
    refine wpAny_handleBy_cons (codeAny_handlers_test ?_) (by intro z; cases z)
    have LM := PySem.W.exm_one (M := model X.prog X.w) J3.kIn LT hb
    have test : ∀ {Q : Value → Shared → Prop} {E : Value → Shared → Prop}, Q c { s with heap := h3 } → wpAny (model X.prog X.w) (X.A.mark (some (.ref a))) (eval (.Name x p) X.env) Q E { s with heap := h3 } := fun {Q E} z => by
      obtain ⟨hg, hg2, hm | ⟨hm, hv, hnn⟩⟩ := nm
      · exact ld_glob (X := X.suite a ((a, oe) :: (X.pn ++ pins))) S3 hg hm z hg2
      · exact ld_blt (X := X.suite a ((a, oe) :: (X.pn ++ pins))) S3 hg hm hv z hnn hg2
    refine test (LM.here ?_)
    cases b with
    | false => exact ih (no rfl)
    | true =>
      refine codeAny_handlers_suite_as (HandSPX.lands_againZ fl3 fun h4 fl4 up4 => ?_)
      have J4 : Inv X pins σ H { s with heap := h4 } := J.landed nb fl4.1 (up3.trans up4) os ag
      obtain ⟨oe4, vs4, he4, hz4, hd4⟩ := fl4.there
      refine store_ok (X := X.suite a ((a, oe4) :: (X.pn ++ pins))) (v := .ref a) (J4.suite he4 hd4 na nL nF) hN hi (.inl hl) rfl (fun s5 S5 => ?_) (.inr hl)
      refine wpAny_mono ((su a oe4 cls d (X.pn ++ pins) hz4 ⟨_, hd4⟩).run [] s5 _ H _ S5 (yes rfl a na hlt)) (fun fl s6 z => ?_) (fun _ _ z => False.elim z)
      have off : ∀ {σ6 : L2.St} {H6 : Hp} {Q : Shared → Prop}, Inv (X.suite a ((a, oe4) :: (X.pn ++ pins))) [] σ6 H6 s6 → (∀ s7, Inv X pins (σ6.set i none) H6 s7 → Q s7) →
          wpAny (model X.prog X.w) X.A (do bindName X.env n .none; unbindBehindTheSuite X.env n q) (fun _ s7 => Q s7) X.xe s6 := fun {σ6 H6 Q} S6 k => gone_ok (S6.unsuite ok) hN hi hl k
      cases fl with
      | next =>
        obtain ⟨σ6, H6, S6, k⟩ := z
        exact off S6 fun s7 J7 => ⟨_, _, J7, k⟩
      | brk =>
        obtain ⟨σ6, H6, S6, k⟩ := z
        exact off S6 fun s7 J7 => ⟨_, _, J7, k⟩
      | cont =>
        obtain ⟨σ6, H6, S6, k⟩ := z
        exact off S6 fun s7 J7 => ⟨_, _, J7, k⟩
      | ret u =>
        obtain ⟨v6, σ6, H6, S6, r6, k⟩ := z
        exact off S6 fun s7 J7 => ⟨_, _, _, J7, r6, k⟩
theorem ps_try_named {h0 : ExceptHandler} {hds : List ExceptHandler} {l : List (Value × Suite)} (hs : X.stack = X.env :: X.outer) (hf : X.env.frame = some X.env.locals) (hN : X.N.Nodup) (hi : X.N[i]? = some n) (hl : X.env.kindOf n = some .local) (tk : L2.Takes X Wout)
    (hb : ∀ (W : WX) (pn : List (Addr × Obj)) (xe : Value → Shared → Prop), L2.Takes (X.tr pn xe) W → PassesOwn (model X.prog X.w) X.A X.env xe → PSs (X.tr pn xe) body (tb W))
    (C : Clauses X n (h0 :: hds) l) : PS X (.Try body (h0 :: hds) [] [] pos) (fun D σ H => tb (wNamed X.K i Wout D l) D σ H) := by
  refine ⟨fun pins s σ H D I h => ?_⟩
  have ok := I.ok
  have hfr : X.A.frames = some (X.env :: X.outer) := by rw [ok.frames, hs]
  refine wpAny_Try_except (wpAny_mono ((hb (wNamed X.K i Wout D l) (X.pn ++ pins) (fun e s₁ => wpAny (model X.prog X.w) X.A (noteFrame e X.env) (fun _ s₂ => wpAny (model X.prog X.w) X.A (setFlight e none) (fun _ s₃ =>
    wpAny (model X.prog X.w) X.A (handleBy e X.env (h0 :: hds)) (SP X pins D) X.xe s₃) X.xe s₂) X.xe s₁) (fun u s' xx => ?_) PassesOwn.looking).run [] s σ H D (I.toTry _) h) (fun f s1 z => ?_) (fun e s1 z => z))
  · obtain ⟨a, B, sI, pins', σ', H', cls, d, rfl, J', nb, up, sky, na, os, ag, w⟩ := xx
    refine Sky.land Zc.steady hfr hf (by rw [← hs]; exact sky) fun h3 fl3 up3 => ?_
    exact clauses_go hs hf hN hi hl tk ok (J'.ofTry ok) nb os ag na fl3 (up.trans up3) C w
  · cases f with
    | next =>
      obtain ⟨σ', H', J', q⟩ := z
      exact wpAny_execs_nil ⟨σ', H', J'.ofTry ok, q⟩
    | brk =>
      obtain ⟨σ', H', J', q⟩ := z
      exact ⟨σ', H', J'.ofTry ok, q⟩
    | cont =>
      obtain ⟨σ', H', J', q⟩ := z
      exact ⟨σ', H', J'.ofTry ok, q⟩
    | ret u =>
      obtain ⟨v, σ', H', J', r, q⟩ := z
      exact ⟨v, σ', H', J'.ofTry ok, r, q⟩
end
/-! ### the source of draws -/
def BoxAt (H : Hp) (b : Addr) : Prop := ∃ g m n : Int, H b = some (.lst [.int g, .int m, .int n])
theorem BoxAt.same {H H' : Hp} {b : Addr} (h : BoxAt H b) (s : Same H H') : BoxAt H' b := by
  obtain ⟨g, m, n, e⟩ := h
  exact ⟨g, m, n, s _ _ e⟩
/-- all but the source stays -/
def Keep (b : Addr) (H H' : Hp) : Prop := ∀ a o, H a = some o → a ≠ b → H' a = some o
theorem Keep.refl (b : Addr) (H : Hp) : Keep b H H := fun _ _ e _ => e
theorem Keep.trans {b : Addr} {H H1 H2 : Hp} (x : Keep b H H1) (y : Keep b H1 H2) : Keep b H H2 := fun a o e n => y a o (x a o e n) n
theorem Keep.of {b : Addr} {H H' : Hp} (s : Same H H') : Keep b H H' := fun a o e _ => s a o e
theorem Keep.at_ {b : Addr} {H : Hp} {o : HO} : Keep b H (upd H b o) := fun a x e n => by rw [upd_ne n]; exact e
theorem BoxAt.ne_of {H : Hp} {b p : Addr} (h : BoxAt H b) (n : H p = none) : p ≠ b := by
  obtain ⟨g, m, k, e⟩ := h
  exact (ne_of_none e n).symm
theorem BoxAt.ne_tup {H : Hp} {b p : Addr} {xs : List V} (h : BoxAt H b) (n : H p = some (.tup xs)) : p ≠ b := by
  obtain ⟨g, m, k, e⟩ := h
  exact Own.ne_of n e (by intro z; cases z)
theorem Keep.seq {K : PySem.W.Frag} {b a : Addr} {H H' : Hp} {xs : List V} (k : Keep b H H') (ne : a ≠ b) (h : SqL K H a xs) : SqL K H' a xs := by
  rcases h with (h | ⟨o, h⟩) | h
  · exact .inl (.inl (k _ _ h ne))
  · exact .inl (.inr ⟨o, k _ _ h ne⟩)
  · exact .inr h
/-- a def whose code object stands at c -/
structure FunC (K : PySem.W.Frag) (x qual : Str) (st : Stmt) (f : Addr) (fd : FuncData) (c : Addr) : Prop where
  ex : ∃ (oc : Value) (od : Option Addr) (kV doc pm : Value) (an : Option Addr) (ct : Value) (osl : Array (Option Value)),
    fd = PySem.W.fnOf x qual (defArgs st) (defBody st) (defScope st) .none kV doc pm an (.ref c) ct ∧ K.lookup f = some ⟨oc, od, .func fd, osl⟩ ∧ PySem.W.codeIn K (.ref c) qual = true
section
variable {P : Program} {w : World} {K : PySem.W.Frag} {mg : Str → Option Value} {base : Heap}
theorem FunC.ok {x qual : Str} {st : Stmt} {f c : Addr} {fd : FuncData} {N ps : List Str} {k : Nat} {sp : Sp} (F : FunC K x qual st f fd c) (S : FnScope N ps (defScope st)) (len : ∀ vs H Q E, sp vs H Q E → vs.length = ps.length)
    (hbody : ∀ (A : Around) (outer : List Env) (s : Shared) (H : Hp) (vs : List V) (Q : VK) (E : XK), Room k (A.deeper (envOfC qual (defScope st) s.heap.objs.size f (.ref c))) → sp vs H Q E →
      ∃ t, PSs (cxOf CX0 P w K mg base N qual (defScope st) f (.ref c) A outer s H E).nox (defBody st) t ∧ t { nx := fun _ H' => Q .non H', rt := Q } (L2.start N vs) H) : FnOk P w K mg base CX0 (k + 1) f fd ps sp := by
  obtain ⟨oc, od, kV, doc, pm, an, ct, osl, rfl, lk, hcd⟩ := F.ex
  refine fn_of lk hcd S len fun A outer s H vs Q E hr hsp => ?_
  obtain ⟨t, h, q⟩ := hbody A outer s H vs Q E hr hsp
  exact ⟨t, h.nox, q⟩
end
/-! ### the tables stay tables -/
def KeepN (b : Addr) (H H' : Hp) : Prop := ∀ a o, H a = some o → a ≠ b → (∀ ps, o ≠ .tbl ps) → H' a = some o
theorem KeepN.of_keep {b : Addr} {H H' : Hp} (k : Keep b H H') : KeepN b H H' := fun a o e n _ => k a o e n
theorem KeepN.of_ext {b : Addr} {H H' : Hp} (k : LamX.ExtN H H') : KeepN b H H' := fun a o e _ n => k a o e n
theorem KeepN.trans {b : Addr} {H H1 H2 : Hp} (x : KeepN b H H1) (y : KeepN b H1 H2) : KeepN b H H2 := fun a o e n m => y a o (x a o e n m) n m
theorem ext_of {H H' : Hp} (s : Same H H') : LamX.ExtN H H' := LamX.ExtN.of s
theorem ext_at {H0 H : Hp} {D : Addr} {o : HO} (s : LamX.ExtN H0 H) (n : H D = none) : LamX.ExtN H0 (upd H D o) := s.trans (ext_of (same_upd n))
theorem codeO_lst {c : Addr} {q : Str} {xs : List V} : LamX.CodeO c q ≠ .lst xs := fun z => by
  unfold LamX.CodeO at z
  cases z
theorem BoxAt.ext {H H' : Hp} {b : Addr} (h : BoxAt H b) (s : LamX.ExtN H H') : BoxAt H' b := by
  obtain ⟨g, m, n, e⟩ := h
  exact ⟨g, m, n, s _ _ e (fun ps z => by cases z)⟩
theorem tabs_keep {T : List (Addr × Str)} {b : Addr} {H H' : Hp} (t : LamX.Tabs T H) (x : BoxAt H b) (k : Keep b H H') : LamX.Tabs T H' := fun p hp => by
  obtain ⟨ps, h1, h2, h3⟩ := t p hp
  obtain ⟨g, m, n, e⟩ := x
  refine ⟨ps, k _ _ h1 (Own.ne_of h1 e (by intro z; cases z)), h2, fun pos cv hc => ?_⟩
  obtain ⟨c, e1, e2⟩ := h3 pos cv hc
  exact ⟨c, e1, k _ _ e2 (Own.ne_of e2 e codeO_lst)⟩
/-- new, as far as it is no table -/
def FreeN (H : Hp) (l : Addr) : Prop := ∀ o, H l = some o → ∃ ps, o = .tbl ps
theorem freeN_of {H H' : Hp} {l : Addr} (x : LamX.ExtN H H') (n : H' l = none) : FreeN H l := fun o e => by
  refine Classical.byContradiction fun h => ?_
  rw [x _ _ e (fun ps z => h ⟨ps, z⟩)] at n
  cases n
theorem ext_put {H H' : Hp} {l : Addr} {o : HO} (x : LamX.ExtN H H') (n : FreeN H l) : LamX.ExtN H (upd H' l o) := fun b u e h => by
  by_cases hb : b = l
  · subst hb
    obtain ⟨ps, z⟩ := n u e
    exact absurd z (h ps)
  · rw [upd_ne hb]; exact x _ _ e h
theorem tabs_put {T : List (Addr × Str)} {l : Addr} {H : Hp} {xs : List V} {o : HO} (t : LamX.Tabs T H) (e : H l = some (.lst xs)) : LamX.Tabs T (upd H l o) := fun p hp => by
  obtain ⟨ps, h1, h2, h3⟩ := t p hp
  refine ⟨ps, by rw [upd_ne (Own.ne_of h1 e (by intro z; cases z))]; exact h1, h2, fun pos cv hc => ?_⟩
  obtain ⟨c, e1, e2⟩ := h3 pos cv hc
  exact ⟨c, e1, by rw [upd_ne (Own.ne_of e2 e codeO_lst)]; exact e2⟩
theorem len1 {a : V} : [a].length ≤ sizeLine := by
  rw [sizeLine_eq]
  exact (by decide : 1 ≤ 16777216)
theorem len2 {a b : V} : [a, b].length ≤ sizeLine := by
  rw [sizeLine_eq]
  exact (by decide : 2 ≤ 16777216)
theorem len3 {a b c : V} : [a, b, c].length ≤ sizeLine := by
  rw [sizeLine_eq]
  exact (by decide : 3 ≤ 16777216)
theorem len4 {a b c d : V} : [a, b, c, d].length ≤ sizeLine := by
  rw [sizeLine_eq]
  exact (by decide : 4 ≤ 16777216)
theorem len5 {a b c d e : V} : [a, b, c, d, e].length ≤ sizeLine := by
  rw [sizeLine_eq]
  exact (by decide : 5 ≤ 16777216)
theorem len6 {a b c d e f : V} : [a, b, c, d, e, f].length ≤ sizeLine := by
  rw [sizeLine_eq]
  exact (by decide : 6 ≤ 16777216)
theorem nil_ok : ([] : List V).length ≤ sizeLine := Nat.zero_le _
theorem TyOf.same {K : PySem.W.Frag} {H H' : Hp} {x : V} {t : Value} (h : TyOf K H x t) (s : Same H H') : TyOf K H' x t := by
  cases h with
  | non => exact .non
  | bl b => exact .bl b
  | int i => exact .int i
  | str y => exact .str y
  | flt y => exact .flt y
  | lst e => exact .lst (s _ _ e)
  | frz e => exact .frz (s _ _ e)
  | tup e => exact .tup (s _ _ e)
  | dK e => exact .dK (s _ _ e)
  | dT e => exact .dT (s _ _ e)
  | ins e cl ha hn htk hm => exact .ins (s _ _ e) cl ha hn htk hm
theorem TyX.same {K : PySem.W.Frag} {H H' : Hp} {x : V} {t : Value} (h : TyX K H x t) (s : Same H H') : TyX K H' x t := by
  cases h with
  | base h => exact .base (TyOf.same h s)
  | byt b => exact .byt b
  | set e => exact .set (s _ _ e)
  | kList e c => exact .kList e c
  | kTuple e c => exact .kTuple e c
  | kDict e c => exact .kDict e c
  | fTuple e => exact .fTuple (s _ _ e)
  | fDict e => exact .fDict (s _ _ e)
theorem TyE.same {K : PySem.W.Frag} {H H' : Hp} {x : V} {t : Value} (h : TyE K H x t) (s : Same H H') : TyE K H' x t := by
  cases h with
  | base h => exact .base (TyX.same h s)
  | exc T e f => exact .exc T (s _ _ e) (s _ _ f)
theorem exo_lst {e C : Addr} {d : Option Addr} {xs : List V} : exo e C d ≠ .lst xs := fun z => by
  have z' : HO.ext _ = HO.lst xs := z
  cases z'
theorem exd_lst {e : Addr} {fs : List (Str × V)} {xs : List V} : exd e fs ≠ .lst xs := fun z => by
  have z' : HO.ext _ = HO.lst xs := z
  cases z'
theorem Keep.at_ne {b a : Addr} {H H' : Hp} {o : HO} (k : Keep b H H') (x : BoxAt H b) (e : H a = some o) (n : ∀ xs, o ≠ .lst xs) : H' a = some o := by
  obtain ⟨g, m, y, eb⟩ := x
  exact k _ _ e (Own.ne_of e eb (n _))
theorem TyOf.keep {K : PySem.W.Frag} {b : Addr} {H H' : Hp} {x : V} {t : Value} (h : TyOf K H x t) (hb : BoxAt H b) (hb' : BoxAt H' b) (s : Keep b H H') : TyOf K H' x t := by
  cases h with
  | non => exact .non
  | bl b => exact .bl b
  | int i => exact .int i
  | str y => exact .str y
  | flt y => exact .flt y
  | @lst a xs e =>
    by_cases c : a = b
    · subst c
      obtain ⟨g, m, n, e2⟩ := hb'
      exact .lst e2
    · exact .lst (s _ _ e c)
  | frz e => exact .frz (s.at_ne hb e (fun _ z => by cases z))
  | tup e => exact .tup (s.at_ne hb e (fun _ z => by cases z))
  | dK e => exact .dK (s.at_ne hb e (fun _ z => by cases z))
  | dT e => exact .dT (s.at_ne hb e (fun _ z => by cases z))
  | ins e cl ha hn htk hm => exact .ins (s.at_ne hb e (fun _ z => by cases z)) cl ha hn htk hm
theorem TyX.keep {K : PySem.W.Frag} {b : Addr} {H H' : Hp} {x : V} {t : Value} (h : TyX K H x t) (hb : BoxAt H b) (hb' : BoxAt H' b) (s : Keep b H H') : TyX K H' x t := by
  cases h with
  | base h => exact .base (TyOf.keep h hb hb' s)
  | byt b => exact .byt b
  | set e => exact .set (s.at_ne hb e (fun _ z => by cases z))
  | kList e c => exact .kList e c
  | kTuple e c => exact .kTuple e c
  | kDict e c => exact .kDict e c
  | fTuple e => exact .fTuple (s.at_ne hb e (fun _ z => by cases z))
  | fDict e => exact .fDict (s.at_ne hb e (fun _ z => by cases z))
theorem TyE.keep {K : PySem.W.Frag} {b : Addr} {H H' : Hp} {x : V} {t : Value} (h : TyE K H x t) (hb : BoxAt H b) (hb' : BoxAt H' b) (s : Keep b H H') : TyE K H' x t := by
  cases h with
  | base h => exact .base (TyX.keep h hb hb' s)
  | exc T e f => exact .exc T (s.at_ne hb e (fun _ => exo_lst)) (s.at_ne hb f (fun _ => exd_lst))
theorem seq_ext {K : PySem.W.Frag} {a : Addr} {H H' : Hp} {xs : List V} (x : LamX.ExtN H H') (h : SqL K H a xs) : SqL K H' a xs := by
  rcases h with (h | ⟨o, h⟩) | h
  · exact .inl (.inl (x _ _ h (fun ps z => by cases z)))
  · exact .inl (.inr ⟨o, x _ _ h (fun ps z => by cases z)⟩)
  · exact .inr h
theorem ext_keepN {b : Addr} {H H' : Hp} (k : KeepN b H H') (n : H b = none) : LamX.ExtN H H' := fun a o e m => k a o e (ne_of_none e n) m
theorem u65 {k : Nat} {A : Around} (hr : Room k A) : A.units + 65 < cLine := by have := hr.un; omega
open PySem.W (Frag findIn subIn typeIn keepIn)
open PySem.Calls
theorem sw2 {α : Type} {ws : List α} (h : (sw ws).length = 2) : ∃ a b, ws = [a, b] := by
  match ws, h with
  | [], h => cases h
  | [_], h => cases h
  | [a, b], _ => exact ⟨a, b, rfl⟩
  | _ :: _ :: _ :: _, h => cases h
theorem vals_sw : ∀ {zs : List V} {ws : List Value}, Vals zs ws → Vals (sw zs) (sw ws)
  | _, _, .nil => .nil
  | _, _, .cons _ .nil => .nil
  | _, _, .cons a (.cons b .nil) => .cons b (.cons a .nil)
  | _, _, .cons _ (.cons _ (.cons _ _)) => .nil
section
variable {P : Program} {w : World} {K : Frag} {mg : Str → Option Value} {base : Heap} {x p1 p2 : Str} {st : Stmt} {f : Addr} {fd : FuncData} {k : Nat} {sp : Sp} {CX : CXT}
theorem mkK2 (F : Fun K x x st f fd) (ok : FnOk P w K mg base CX k f fd [p1, p2] sp) (hC : CX = CX0 ∨ CX = L2.CX P w) (g : mg x = some (.ref f))
    (h : ∀ (kV doc pm : Value) (an : Option Addr) (cdv ct : Value) (a b : Value), bindArgs (PySem.W.fnOf x x (defArgs st) (defBody st) (defScope st) .none kV doc pm an cdv ct) ⟨[], [p2, p1].zip [a, b]⟩ = pure ([p1, p2].zip [b, a])) : CalK P w K mg base k x [p2, p1] sw sp := by
  have kp := F.kp
  obtain ⟨oc, od, kV, doc, pm, an, cdv, ct, osl, rfl, lk, hc⟩ := F.ex
  refine ⟨⟨f, _, [p1, p2], sw, CX, hC, ok, g, kp, fun s ws hl => ?_, fun _ _ r => vals_sw r⟩⟩
  obtain ⟨a, b, rfl⟩ := sw2 hl
  exact .of_eq (h kV doc pm an cdv ct a b)
theorem mkK1 (F : Fun K x x st f fd) (ok : FnOk P w K mg base CX k f fd [p1] sp) (hC : CX = CX0 ∨ CX = L2.CX P w) (g : mg x = some (.ref f))
    (h : ∀ (kV doc pm : Value) (an : Option Addr) (cdv ct : Value) (a : Value), bindArgs (PySem.W.fnOf x x (defArgs st) (defBody st) (defScope st) .none kV doc pm an cdv ct) ⟨[], [p1].zip [a]⟩ = pure ([p1].zip [a])) : CalK P w K mg base k x [p1] id sp := by
  have kp := F.kp
  obtain ⟨oc, od, kV, doc, pm, an, cdv, ct, osl, rfl, lk, hc⟩ := F.ex
  refine ⟨⟨f, _, [p1], id, CX, hC, ok, g, kp, fun s ws hl => ?_, fun _ _ r => r⟩⟩
  match ws, hl with
  | [a], _ => exact .of_eq (h kV doc pm an cdv ct a)
end
/-- an own error's class -/
def oexB (K : Frag) (C : Addr) : Bool := (match K.lookup C with
  | some ⟨.type t, _, .cls cd, sl⟩ => decide (t = "type") && (match cd.mro, sl.toList with
    | .ref C' :: bm, [_, _, _, _, some (.builtin n), _] => decide (C' = C) && (decide (n = "ValueError.__new__") && (!cd.hasDel && (cd.hasDict && HandSPX.refsVE bm)))
    | _, _ => false)
  | _ => false) && (He.eqO (findIn K (.ref C) "__setattr__") (some (some (.builtin "object.__setattr__"))) && (decide (subIn K (.ref C) (.type "BaseException") = some true) && (decide (typeIn K (.ref C) = some (.type "type")) && keepIn K (.ref C))))
theorem oexB_ok {K : Frag} {C : Addr} (h : oexB K C = true) : OexC K C := by
  obtain ⟨h1, h⟩ := He.ba h
  obtain ⟨h2, h⟩ := He.ba h
  obtain ⟨h3, h⟩ := He.ba h
  obtain ⟨h4, h5⟩ := He.ba h
  refine ⟨?_, He.eqO_ok h2, of_decide_eq_true h3, of_decide_eq_true h4, h5⟩
  clear h2 h3 h4 h5 h
  cases q : K.lookup C with
  | none => rw [q] at h1; cases h1
  | some o =>
    obtain ⟨oc, dd, dt, sl⟩ := o
    rw [q] at h1
    cases oc with
    | type t =>
      cases dt with
      | cls cd =>
        obtain ⟨nm, bases, mro, ns, qn, hd, sn, sb, ab, col, del⟩ := cd
        obtain ⟨a1, a2⟩ := He.ba h1
        obtain rfl := of_decide_eq_true a1
        clear h1 a1
        cases mro with
        | nil => cases a2
        | cons m bm =>
          cases m with
          | ref C' =>
            obtain ⟨sll⟩ := sl
            match sll, a2 with
            | [k0, k1, k2, k3, some (.builtin n), k5], a2 =>
              obtain ⟨b1, b⟩ := He.ba a2
              obtain ⟨b2, b⟩ := He.ba b
              obtain ⟨b3, b⟩ := He.ba b
              obtain ⟨b4, b5⟩ := He.ba b
              obtain rfl := of_decide_eq_true b1
              obtain rfl := of_decide_eq_true b2
              have e3 : del = false := by simpa using b3
              have e4 : hd = true := b4
              subst e3 e4
              exact ⟨nm, qn, ns, bases, bm, sn, sb, ab, col, dd, k0, k1, k2, k3, k5, rfl, b5⟩
          | _ => cases a2
      | _ => cases h1
    | _ => cases dt <;> cases h1
def clsB (K : Frag) (x : Str) : Bool := oexB K (He.ga K x) && (He.eqO (findIn K (.ref (He.ga K x)) "__init__") (some (some (.ref (He.ma K (He.ga K x) "__init__")))) && (decide (typeIn K (.ref (He.ma K (He.ga K x) "__init__")) = some (.type "function")) && (xfB K (He.ga K x) && He.eqO (findIn K (.ref (He.ga K x)) "word") (some none))))
theorem clsB_ok {K : Frag} {mg : Str → Option Value} {x : Str} (h : clsB K x = true) (g : mg x = some (.ref (He.ga K x))) : ExT K mg x (He.ga K x) (He.ma K (He.ga K x) "__init__") := by
  obtain ⟨h1, h⟩ := He.ba h
  obtain ⟨h2, h⟩ := He.ba h
  obtain ⟨h3, h⟩ := He.ba h
  obtain ⟨h4, h5⟩ := He.ba h
  exact ⟨oexB_ok h1, He.eqO_ok h2, of_decide_eq_true h3, g, xfB_ok h4, He.eqO_ok h5⟩
section
variable {K : Frag}
theorem funOf {x : Str} {st : Stmt} {f : Addr} {fd : FuncData} {qual : Str} (F : FunD K x qual (defArgs st) (defBody st) (defScope st) [] [] f fd) : Fun K x qual st f fd := by
  obtain ⟨oc, od, dV, kV, doc, pm, an, cdv, ct, osl, e, lk, hc, hd, hk⟩ := F.ex
  rcases hd with ⟨_, h⟩ | ⟨h, _⟩
  · subst h
    exact ⟨⟨oc, od, kV, doc, pm, an, cdv, ct, osl, e, lk, hc⟩, F.kp⟩
  · exact absurd rfl h
theorem funCOf {x : Str} {st : Stmt} {p : He.Defn} {fd : FuncData} {qual : Str} (F : Fun K x qual st (He.fAd K p) fd) : FunC K x qual st (He.fAd K p) fd (He.cT K p).1 := by
  obtain ⟨oc, od, kV, doc, pm, an, cdv, ct, osl, e, lk, hc⟩ := F.ex
  obtain ⟨c, rfl⟩ := He.codeIn_ref hc
  have e2 : He.codeOf K p = c := He.codeOf_eq lk (by rw [e])
  have e3 : (He.cT K p).1 = c := e2
  rw [e3]
  exact ⟨⟨oc, od, kV, doc, pm, an, ct, osl, e, lk, hc⟩⟩
end
end Own

/-! Defs that show data by repr: what is under way in C must be known where they are called (A.guards = some []), which the layer's promises leave open. A promise under that premise, its call, repr of data, the law's end. -/
namespace Gd
open PySem PySem.Spec PyProof.Rows L2
theorem deeper_guards {A : Around} {env : Env} (h : A.guards = some []) : (A.deeper env).guards = some [] := h
/-- a def that keeps sp where nothing is under way -/
structure FnG (P : Program) (w : World) (K : PySem.W.Frag) (mg : Str → Option Value) (base : Heap) (CX : CXT) (k : Nat) (f : Addr) (fd : FuncData) (ps : List Str) (sp : Sp) : Prop where
  len : ∀ vs H Q E, sp vs H Q E → vs.length = ps.length
  run : ∀ (A : Around) (outer : List Env) (s : Shared) (H : Hp) (args : Args) (us : List Value) (vs : List V) (Q : VK) (E : XK), A.guards = some [] → Room k A → Env0 P w K mg base A outer s H → BindsTo s fd args (ps.zip us) → Vals vs us → sp vs H Q E →
    codeAny (model P w) A (.call (.ref f) args) (CR CX outer P w H s Q E) s
section
variable {P : Program} {w : World} {K : PySem.W.Frag} {mg : Str → Option Value} {base : Heap}
theorem FnG.mono {CX : CXT} {j k : Nat} {f : Addr} {fd : FuncData} {ps : List Str} {sp : Sp} (F : FnG P w K mg base CX j f fd ps sp) (h : j ≤ k) : FnG P w K mg base CX k f fd ps sp :=
  ⟨F.len, fun A outer s H args us vs Q E g hr => F.run A outer s H args us vs Q E g (hr.mono h)⟩
/-- a def by its body, the guards known within -/
theorem fun_okG {x qual : Str} {st : Stmt} {f : Addr} {fd : FuncData} {N ps : List Str} {k : Nat} {sp : Sp} (F : Fun K x qual st f fd) (S : FnScope N ps (defScope st)) (len : ∀ vs H Q E, sp vs H Q E → vs.length = ps.length)
    (hbody : ∀ (cdv : Value) (A : Around) (outer : List Env) (s : Shared) (H : Hp) (vs : List V) (Q : VK) (E : XK), (A.deeper (envOfC qual (defScope st) s.heap.objs.size f cdv)).guards = some [] → Room k (A.deeper (envOfC qual (defScope st) s.heap.objs.size f cdv)) → sp vs H Q E →
      ∃ t, PSs (cxOf CX0 P w K mg base N qual (defScope st) f cdv A outer s H E).nox (defBody st) t ∧ t { nx := fun _ H' => Q .non H', rt := Q } (L2.start N vs) H) : FnG P w K mg base CX0 (k + 1) f fd ps sp := by
  obtain ⟨oc, od, kV, doc, pm, an, cdv, ct, osl, rfl, lk, hcd⟩ := F.ex
  refine ⟨len, fun A outer s H args us vs Q E g hr e0 hb r hsp => ?_⟩
  refine LamX.run_ofS lk hcd S hr e0 hb r (len _ _ _ _ hsp) fun hr' => ?_
  obtain ⟨t, h, q⟩ := hbody cdv A outer s H vs Q E (deeper_guards g) hr' hsp
  exact ⟨t, h.nox, q⟩
/-- such a def by its name -/
structure CalG (P : Program) (w : World) (K : PySem.W.Frag) (mg : Str → Option Value) (base : Heap) (k : Nat) (x : Str) (sp : Sp) : Prop where
  ex : ∃ (f : Addr) (fd : FuncData) (ps : List Str), FnG P w K mg base CX0 k f fd ps sp ∧ mg x = some (.ref f) ∧ PySem.W.keepIn K (.ref f) = true ∧ Binds K fd ps []
end
section
variable {X : Cx} {k j : Nat} {x : Str} {sp : Sp} {e : Expr} {es : List Expr} {t : TA} {p pos : Pos}
theorem pe_cG (hgd : X.A.guards = some []) (c : CalG X.prog X.w X.K X.mg X.base k x sp) (hr : Room j X.A) (hk : k ≤ j) (hg : Gl X x) (ha : PA X (e :: es) t)
    (hdb : (x == ("__debug__" : Str)) = false := by decide) (he : starEach (e :: es) X.env = (false, eval e X.env) :: starEach es X.env := by rfl) (hpl : (backTo pos (starEach es X.env)).any (·.1) = false := by rfl) :
    PE X (.Call (.Name x p) (e :: es) [] pos) (tCall sp [] L2.E0 t) := by
  obtain ⟨f, fd, ps, F, hm, kp, b⟩ := c.ex
  refine ⟨fun pins s σ H Q I h => ?_⟩
  refine wpAny_Call_Name_kw (ld_glob I hg hm ?_ hdb)
  refine PySem.W.callWith_K (h₀ := X.base) I.ok.mod.kin kp (thn (ha.run pos pins s σ H _ I h) fun us s1 hz => ?_) he hpl
  obtain ⟨vs, H1, I1, r, q⟩ := hz
  have q : sp (vs ++ []) H1 Q L2.E0 := q
  rw [List.append_nil] at q
  have hl : us.length = ps.length := r.length.symm.trans (F.len _ _ _ _ q)
  refine ⟨I1.kIn, wpAny_call (codeAny_mono ((F.mono hk).run X.A X.stack s1 H1 ⟨us, []⟩ us vs Q L2.E0 hgd hr I1.env0 ?_ r q) fun r3 s3 hq => ?_)⟩
  · have := b s1 us I1.kIn (by rw [List.append_nil]; exact hl)
    rw [List.append_nil] at this
    exact this
  · cases r3 with
    | error e => exact (show False from hq).elim
    | ok fl =>
      cases fl with
      | ret u => exact I1.after hq
      | next => exact hq.elim
      | brk => exact hq.elim
      | cont => exact hq.elim
/-- repr of a tuple, a list of data -/
def rShow (K : PySem.W.Frag) : List V → Hp → VK → Prop := fun xs H Q => ∃ (a : Addr) (d : PyData), xs = [.ref a] ∧ Dp K H (.ref a) d ∧ d.showable = true ∧ d.hasDict = false ∧ d.depth ≤ 60 ∧ d.shown.length ≤ sizeLine ∧ Q (.str d.shown) H
theorem call_show (hgd : X.A.guards = some []) (hu : X.A.units + 64 < cLine) : CallR X (.builtin "repr") (rShow X.K) := by
  intro pins s σ H xs us Q I r h
  obtain ⟨a, d, rfl, hd, hs, hn, hp, hz, q⟩ := h
  obtain ⟨u, rfl, r1⟩ := vals1 r
  cases (show u = Value.ref a from r1)
  obtain ⟨as, rd⟩ := Dp.reads I d (.ref a) (.ref a) hd rfl
  refine repr_of_reads' rd hs (fun e => by rw [hn] at e; cases e) hgd (by omega) (fun _ _ e => e) (fun h' u tk hk => ?_) hz
  exact ⟨.str d.shown, H, I.kept (t' := tk) hk, ⟨u, rfl⟩, q⟩
end
end Gd

namespace Gd
open PySem PySem.Spec PyProof.Rows L2
theorem tuple_mul1 (l : Addr) (items : Array Value) (n : Nat) (dd : Option Addr) (sl : Array (Option Value)) (u : Tok) (hne : items.isEmpty = false) :
    Meets (Builtin.«tuple.__mul__» ⟨[.ref l, .int 1 u], []⟩) (fun _ R s => s.heap.get? l = some { cls := .type "tuple", dict := dd, data := .seq items n, slots := sl } ∧ R (.ok (.ret (Value.ref l))) s) :=
  .of_wp fun prog w A R s h => by
    obtain ⟨hp, g, d, tk, os⟩ := s
    obtain ⟨hl, h⟩ := h
    have f1 := AutoSeq1.idx_int
    have c1 : (items.isEmpty || (1 : Int) == 1) = true := by simp
    wp_walk using wpAny_loadPart' hl
    repeat (first
      | (refine wpAny_ite_true (by simp) ?_; wp_walk using wpAny_loadPart' hl)
      | (refine wpAny_ite_false (by simp) ?_; wp_walk using wpAny_loadPart' hl))
    exact ⟨_, rfl, h⟩
theorem tuple_mul0 (l : Addr) (items : Array Value) (n : Nat) (dd : Option Addr) (sl : Array (Option Value)) (u : Tok) (hne : items.isEmpty = false) :
    Meets (Builtin.«tuple.__mul__» ⟨[.ref l, .int 0 u], []⟩) (fun _ R s => s.heap.get? l = some { cls := .type "tuple", dict := dd, data := .seq items n, slots := sl } ∧ R (.ok (.ret (Value.ref s.heap.objs.size))) { s with heap := s.heap.push { cls := Value.type "tuple", data := Data.seq #[] }, toks := s.toks }) :=
  .of_wp fun prog w A R s h => by
    obtain ⟨hp, g, d, tk, os⟩ := s
    obtain ⟨hl, h⟩ := h
    have f1 := AutoSeq1.idx_int
    wp_walk using wpAny_loadPart' hl
    repeat (first
      | (refine wpAny_ite_false (by simp [hne]) ?_; wp_walk using wpAny_loadPart' hl)
      | (refine wpAny_ite_true (by simp) ?_; wp_walk using wpAny_loadPart' hl))
    exact ⟨_, rfl, h⟩
/-- a tuple of one or more items, times 0 and more -/
def rRepA (K : PySem.W.Frag) : R2 := fun x y H Q => ∃ l k xs, x = .ref l ∧ y = .int k ∧ SqT K H l xs ∧ xs ≠ [] ∧ 0 ≤ k ∧ k ≤ 1000 ∧ xs.length ≤ 1000 ∧ (k = 1 → Q (.ref l) H) ∧ (k ≠ 1 → ∀ p, H p = none → Q (.ref p) (upd H p (.tup (List.replicate k.toNat xs).flatten)))
theorem op_repA {X : Cx} : OpR X (binaryOp .Mult) (rRepA X.K) := by
  intro pins s σ H x y v u Q I rx ry h
  obtain ⟨l, k, xs, rfl, rfl, hT, hne, h1, h2, hz, q1, q2⟩ := h
  by_cases hk : 2 ≤ k
  · exact op_repT pins s σ H _ _ v u Q I rx ry ⟨l, k, xs, rfl, rfl, hT, hne, hk, h2, hz, q2 (by omega)⟩
  cases rx
  obtain ⟨t, rfl⟩ := ry
  obtain ⟨its, r, ⟨⟨cls, dd, data, sl⟩, ho, hc, n, hd⟩, hs⟩ := I.tuple hT
  simp only at hc hd
  subst hc hd
  have hn : its ≠ [] := fun e => hne (by
    have hle : its.length = xs.length := r.length.symm
    rw [e] at hle
    exact List.eq_nil_of_length_eq_zero hle.symm)
  have hi : its.toArray.isEmpty = false := by
    cases its with
    | nil => exact absurd rfl hn
    | cons a b => rfl
  have h01 : k = 1 ∨ k = 0 := by omega
  rcases h01 with rfl | rfl
  · refine wpAny_binaryOp_repeat_ref (T := "tuple") (U := "int") (by decide) ⟨_, ho, rfl⟩ (fun s' => typeIs_int s' 1 t) noFill_tuple_mul F.fills_int_mul F.slot_int_rmul repeat_tuple F.slot_int_index.lookup
      (call_meets F.slot_int_rmul (typeIs_int s 1 t) F.entry_int_rmul (F.args_int_rmul_2 _ _) (int_rmul_tuple 1 t l its.toArray n dd sl)
        ⟨ho, rfl, ⟨_, ho, rfl⟩, call_meets F.slot_tuple_mul ⟨_, ho, rfl⟩ F.entry_tuple_mul (F.args_tuple_mul_2 _ _) (tuple_mul1 l its.toArray n dd sl t hi) ⟨ho, ?_⟩⟩)
    exact ⟨.ref l, H, I, rfl, q1 rfl⟩
  · refine wpAny_binaryOp_repeat_ref (T := "tuple") (U := "int") (by decide) ⟨_, ho, rfl⟩ (fun s' => typeIs_int s' 0 t) noFill_tuple_mul F.fills_int_mul F.slot_int_rmul repeat_tuple F.slot_int_index.lookup
      (call_meets F.slot_int_rmul (typeIs_int s 0 t) F.entry_int_rmul (F.args_int_rmul_2 _ _) (int_rmul_tuple 0 t l its.toArray n dd sl)
        ⟨ho, rfl, ⟨_, ho, rfl⟩, call_meets F.slot_tuple_mul ⟨_, ho, rfl⟩ F.entry_tuple_mul (F.args_tuple_mul_2 _ _) (tuple_mul0 l its.toArray n dd sl t hi) ⟨ho, ?_⟩⟩)
    refine ⟨.ref s.heap.objs.size, _, I.laid (t' := s.toks) (o := .tup []) (fun b ob q => Heap.get?_push_of_some _ q) (Nat.le_refl _) ?_, rfl, q2 (by decide) _ (I.hok.fresh (Nat.le_refl _))⟩
    exact ⟨Nat.zero_le _, [], .nil, IsTup.new _ _⟩
end Gd

/-! enumerate of a tuple, a loop over a list or a tuple, math.lcm. -/
namespace Gd
open PySem PySem.Spec PyProof.Rows L2
/-- the new enumerate object over what v begins as -/
abbrev enO (h : Heap) : Obj := { cls := .type "enumerate", data := .fields #[.none, .bool false, .ref h.objs.size, rawInt 0, .none, .none] }
theorem enB_new {v : Value} {o : Obj} {H : Heap → Prop} (B : Begins v o H) :
    Meets (Builtin.«enumerate.__new__» ⟨[.type "enumerate", v], []⟩) (fun _ R s => H s.heap ∧ R (.ok (.ret (.ref (s.heap.push o).objs.size))) { s with heap := (s.heap.push o).push (enO s.heap) }) :=
  .of_wp fun P W A R s z => by
    obtain ⟨hp, g, d, tk, os⟩ := s
    obtain ⟨hB, q⟩ := z
    have sb := sub_enumerate
    have begin : ∀ {A2 : Around} {E : Value → Shared → Prop} {Q : Value → Shared → Prop}, Q (.ref hp.objs.size) ⟨hp.push o, g, d, tk, os⟩ → wpAny (model P W) A2 (pyIter v) Q E ⟨hp, g, d, tk, os⟩ :=
      fun y => B.iter P W _ _ ⟨hp, g, d, tk, os⟩ _ hB y
    wp_walk using begin
    refine wpAny_stack_any fun stk => wpAny_pure ?_
    split
    all_goals first
      | (wp_walk using begin; exact ⟨_, rfl, q⟩)
      | (rename_i c _ _ _ _ _
         cases (c == Value.type "enumerate") <;> (wp_walk using begin; exact ⟨_, rfl, q⟩))
theorem call_enB {P : Program} {w : World} {A : Around} {E : Value → Shared → Prop} {s : Shared} {v : Value} {o : Obj} {H : Heap → Prop} {Q : Value → Shared → Prop} (B : Begins v o H) (hB : H s.heap)
    (q : ∀ h', IsEnum h' (s.heap.objs.size + 1) s.heap.objs.size 0 .none → h'.get? s.heap.objs.size = some o → (∀ b x, s.heap.get? b = some x → h'.get? b = some x) → Q (.ref (s.heap.objs.size + 1)) { s with heap := h' }) :
    wpAny (model P w) A (call (.type "enumerate") [v]) Q E s := by
  refine callType_new F.called_enumerate (by decide) (F.typeCall_enumerate_1 _) (F.newCall_enumerate_1 _) (fun obj => F.args_object_init_2 obj _) F.entry_enumerate_new (enB_new B) ⟨hB, ?_⟩
  have sz : (s.heap.push o).objs.size = s.heap.objs.size + 1 := Heap.size_push ..
  have isE : IsEnum ((s.heap.push o).push (enO s.heap)) (s.heap.push o).objs.size s.heap.objs.size 0 .none := Heap.get?_push_size _ rfl
  have q2 := q ((s.heap.push o).push (enO s.heap)) (by rw [← sz]; exact isE) (Heap.get?_push_of_some _ (Heap.get?_push_size _ B.free)) fun b x e => Heap.get?_push_of_some _ (Heap.get?_push_of_some _ e)
  rw [← sz] at q2
  exact ⟨⟨_, isE, rfl⟩, q2⟩
/-- the tuple at a as it stands at each turn, each item in a new pair -/
def ItE (K : PySem.W.Frag) (a : Addr) : It :=
  ⟨fun i H => ∃ (xs : List V) (x : V), SqT K H a xs ∧ xs[i]? = some x, fun i H v H' => ∃ T x, v = .ref T ∧ H T = none ∧ H' = upd H T (.tup [.int (i : Nat), x]) ∧ ∀ xs, SqT K H a xs → xs[i]? = some x, fun i H => ∃ xs : List V, SqT K H a xs ∧ xs.length = i⟩
theorem turn_enT {P : Program} {w : World} {K : PySem.W.Frag} {elts : List Expr} {kk : Nat} {tpos : Pos} (a e it : Addr) :
    Turn P w K (.Tuple elts kk tpos) (ItE K a) [e, it] e (fun i h => (∃ old, IsEnum h e it ((i : Nat) : Int) old) ∧ h.IsTupleIter it a i ∧ e ≠ it) where
  mem := List.mem_cons_self ..
  obj := fun i h st b hb => by
    obtain ⟨⟨old, hE⟩, ⟨o, ho, hc, hd⟩, _⟩ := st
    rcases List.mem_cons.mp hb with rfl | hb
    · exact ⟨_, hE, fun v q => nomatch q⟩
    · obtain rfl := List.mem_singleton.mp hb
      exact ⟨o, ho, fun v q => by rw [hd] at q; cases q⟩
  keep := fun i h h' st k => by
    obtain ⟨⟨old, hE⟩, hI, ne⟩ := st
    exact ⟨⟨old, k _ (List.mem_cons_self ..) _ hE⟩, hI.at fun o q => k _ (List.mem_cons_of_mem _ (List.mem_cons_self ..)) o q, ne⟩
  item := by
    intro X hP hw hK hc i pins s σ H E I fps st gg
    subst hP hw hK
    obtain ⟨⟨old, hE⟩, hI, ne⟩ := st
    obtain ⟨xs, x, hq, hx⟩ := gg
    obtain ⟨its, rv, pT, hz⟩ := I.tuple hq
    have pT : s.heap.IsTuple a its.toArray := pT
    obtain ⟨u, hu, ru⟩ := rv.get hx
    have ln := rv.length
    have li : i < its.length := by
      rw [← ln]
      exact (List.getElem?_eq_some_iff.mp hx).1
    obtain ⟨oa, ea, ca, na, da⟩ := id pT
    obtain ⟨oi, ei, ci, di⟩ := id hI
    have ae : e ≠ a := fun z => by
      have y : s.heap.get? a = some _ := z ▸ hE
      rw [ea] at y
      cases y
      cases da
    have ai : a ≠ it := fun z => by
      rw [z, ei] at ea
      cases ea
      rw [di] at da
      cases da
    have D := Draws.tuple (prog := X.prog) (w := X.w) (A := X.A.in1) (I.ok.hd hc) it a ai its.toArray
    have le : e < s.heap.objs.size := Heap.lt_size hE
    have lt : it < s.heap.objs.size := Heap.lt_size ei
    refine wpAny_pyNext_enum_itemD D hE ⟨hI, pT⟩ (by simpa using li) ne (by simp only [List.mem_cons, List.not_mem_nil, or_false, not_or]; exact ⟨ne, ae⟩) fun y h1 tk hy out st1 new _ kp => ?_
    obtain rfl : u = y := Option.some.inj ((by simpa using hu : its.toArray[i]? = some u).symm.trans hy)
    refine ⟨_, rfl, wpAny_letOwnedTupleGo_enum (s := { s with heap := h1, toks := tk + 1 }) out fun h2 in2 sb => ?_⟩
    have new2 : h2.get? s.heap.objs.size = some { cls := .type "tuple", data := .seq #[.int i tk, u] } := (sb.2 _ (Nat.ne_of_gt le)).trans new
    have fresh := I.hok.fresh (Nat.le_refl s.heap.objs.size)
    have pair : ObjOk X.prog X.w (upd H s.heap.objs.size (.tup [.int (i : Nat), x])) h2 s.heap.objs.size (.tup [.int (i : Nat), x]) :=
      ⟨show 2 ≤ sizeLine by decide, [.int i tk, u], .cons ⟨_, rfl⟩ (.cons ru .nil), ⟨_, new2, rfl, _, rfl⟩⟩
    have I2 : Inv X pins σ (upd H s.heap.objs.size (.tup [.int (i : Nat), x])) { s with heap := h2, toks := tk + 1 } :=
      I.turnedNew (ch := [e, it]) (fun b ob nb q => by
        have n1 : b ≠ e := fun z => nb (z ▸ List.mem_cons_self ..)
        have n2 : b ≠ it := fun z => nb (z ▸ List.mem_cons_of_mem _ (List.mem_cons_self ..))
        exact (sb.2 b n1).trans (kp b ob n1 n2 q)) fps (Nat.le_refl _) pair
    refine ⟨.ref s.heap.objs.size, _, I2, rfl, ⟨_, x, rfl, fresh, rfl, fun ys hy => by rw [I.tuple_inj hy hq]; exact hx⟩, ⟨⟨u, by rw [Int.natCast_succ]; exact in2⟩, st1.1.at fun o q => (sb.2 it (Ne.symm ne)).trans q, ne⟩, fun b hb => ?_⟩
    have lb : b < s.heap.objs.size := by
      rcases List.mem_cons.mp hb with rfl | h
      · exact le
      · rw [List.mem_singleton.mp h]; exact lt
    rw [upd_ne (Nat.ne_of_lt lb)]
    exact (fps b hb).1
  done := by
    intro X hP hw hK hc i pins s σ H E I fps st gg
    subst hP hw hK
    obtain ⟨⟨old, hE⟩, hI, ne⟩ := st
    obtain ⟨xs, hq, hx⟩ := gg
    obtain ⟨its, rv, pT, hz⟩ := I.tuple hq
    have pT : s.heap.IsTuple a its.toArray := pT
    obtain ⟨oa, ea, ca, na, da⟩ := id pT
    obtain ⟨oi, ei, ci, di⟩ := id hI
    have ai : a ≠ it := fun z => by
      rw [z, ei] at ea
      cases ea
      rw [di] at da
      cases da
    have D := Draws.tuple (prog := X.prog) (w := X.w) (A := X.A.in1) (I.ok.hd hc) it a ai its.toArray
    have ln := rv.length
    have en : i = its.toArray.size := by rw [List.size_toArray, ← ln, hx]
    obtain ⟨f0, f1, f2, f3, f4, f5⟩ := fps it (List.mem_cons_of_mem _ (List.mem_cons_self ..))
    exact wpAny_pyNext_enum_endD D hE ⟨en ▸ hI, pT⟩ fun h1 eb => ⟨rfl, I.turned (t' := s.toks) (fun b o hb q => eb b o hb q) f0 f1 f3 f4 f5⟩
  self := fun A i s Q E st h => let ⟨⟨_, hE⟩, _⟩ := st; wpAny_pyIter_enum hE h
def iEnT (K : PySem.W.Frag) (ta : TA) : TI := fun σ H R => ta σ H fun vs H1 => ∃ a xs, vs = [.ref a] ∧ SqT K H1 a xs ∧ R (ItE K a) H1
theorem pi_enT {X : Cx} {e : Expr} {ta : TA} {p pos tpos : Pos} {elts : List Expr} {kk : Nat} (hg : Gl X "enumerate") (hm : X.mg "enumerate" = none) (ha : PA X [e] ta) (hs : starEach [e] X.env = [(false, eval e X.env)] := by rfl) :
    PI X (.Tuple elts kk tpos) (.Call (.Name "enumerate" p) [e] [] pos) (iEnT X.K ta) := by
  refine ⟨fun pins s σ H R I h => ?_⟩
  refine Call_ (ld_blt I hg hm boot_enumerate (PyProof.Rows.callWith_type1 (thn (ha.run pos pins s σ H _ I h) fun us s1 ⟨vs, H1, I1, r1, a, xs, ev, hq, q⟩ => ?_) hs rfl))
  subst ev
  obtain ⟨u, rfl, r⟩ := vals1 r1
  cases r
  obtain ⟨its, rv, pT, hz⟩ := I1.tuple hq
  have pT : s1.heap.IsTuple a its.toArray := pT
  refine call_enB (begins_tuple a its.toArray) pT fun h1 isE itO kp => wpAny_pyIter_enum isE ?_
  refine ⟨s1.heap.objs.size + 1, [s1.heap.objs.size + 1, s1.heap.objs.size], _, _, H1, rfl, I1.kept (t' := s1.toks) kp, turn_enT a _ _, ⟨⟨.none, isE⟩, ⟨_, itO, rfl, rfl⟩, Nat.succ_ne_self _⟩, fun b hb => ?_, q⟩
  have le : s1.heap.objs.size ≤ b := by
    rcases List.mem_cons.mp hb with rfl | h
    · exact Nat.le_succ _
    · rw [List.mem_singleton.mp h]; exact Nat.le_refl _
  exact I1.fpOk le (I1.hok.fresh le)
/-- such a loop, by one word a turn -/
theorem for_enT {K : PySem.W.Frag} {a : Addr} {xs : List V} {g : TG} {tb : TS} {D : Ends} {σ : L2.St} {H : Hp} (Pv : Nat → L2.St → Hp → Prop) (h0 : Pv 0 σ H) (hq : ∀ i σ H, Pv i σ H → SqT K H a xs)
    (hs : ∀ (i : Nat) (x : V) (T : Addr) (σ : L2.St) (H : Hp), xs[i]? = some x → Pv i σ H → H T = none → g (.ref T) σ (upd H T (.tup [.int (i : Nat), x])) fun σ2 H2 => tb { D with nx := Pv (i + 1), ct := Pv (i + 1), bk := D.nx } σ2 H2) (hd : ∀ σ H, Pv xs.length σ H → D.nx σ H) :
    ∃ W : Nat → Nat → L2.St → Hp → Prop, (∃ m, W 0 m σ H) ∧ ∀ i m σ H, W i m σ H →
      ((ItE K a).stop i H ∧ D.nx σ H) ∨ ((ItE K a).go i H ∧ ∃ N : L2.St → Hp → Prop, (∀ σ' H', N σ' H' → ∃ m', m' < m ∧ W (i + 1) m' σ' H') ∧ ∀ v H', (ItE K a).yld i H v H' → g v σ H' fun σ2 H2 => tb { D with nx := N, ct := N, bk := D.nx } σ2 H2) := by
  refine ⟨fun i m σ H => m = xs.length - i ∧ i ≤ xs.length ∧ Pv i σ H, ⟨xs.length, rfl, Nat.zero_le _, h0⟩, fun i m σ H ⟨em, le, p⟩ => ?_⟩
  subst em
  have q := hq i σ H p
  by_cases lt : i < xs.length
  · refine .inr ⟨⟨xs, _, q, List.getElem?_eq_getElem lt⟩, Pv (i + 1), fun σ' H' p' => ⟨_, by omega, rfl, lt, p'⟩, fun v H' y => ?_⟩
    obtain ⟨T, x, rfl, nT, rfl, f⟩ := y
    exact hs i x T σ H (f xs q) p nT
  · obtain rfl : i = xs.length := by omega
    exact .inl ⟨⟨xs, q, rfl⟩, hd σ H p⟩
/-- a loop over a list or a tuple -/
def iSeq (K : PySem.W.Frag) (tl : TE) : TI := fun σ H R => tl σ H fun x H1 => ∃ a, x = .ref a ∧ (((∃ xs, SqL K H1 a xs) ∧ R (Itl K a) H1) ∨ ((∃ xs, SqT K H1 a xs) ∧ R (Itt K a) H1))
theorem pi_seq {X : Cx} {tg l : Expr} {tl : TE} (hl : PE X l tl) : PI X tg l (iSeq X.K tl) := by
  refine ⟨fun pins s σ H R I h => ?_⟩
  refine thn (hl.run pins s σ H _ I h) fun v s1 ⟨x, H1, I1, r1, a, e, q1⟩ => ?_
  subst e
  cases r1
  have fp : ∀ b ∈ [s1.heap.objs.size], FpOk X pins H1 b := fun b hb => by
    rw [List.mem_singleton.mp hb]
    exact I1.fpOk (Nat.le_refl _) (I1.hok.fresh (Nat.le_refl _))
  rcases q1 with ⟨⟨xs, hq⟩, q⟩ | ⟨⟨xs, hq⟩, q⟩
  · obtain ⟨its, rv, pl, hz⟩ := I1.list hq
    exact wpAny_pyIter_list pl.isList ⟨_, _, _, _, H1, rfl, I1.kept (t' := s1.toks) fun b o y => Heap.get?_push_of_some _ y, turn_list a _, ⟨_, Heap.get?_push_size _ rfl, rfl, rfl⟩, fp, q⟩
  · obtain ⟨its, rv, pl, hz⟩ := I1.tuple hq
    exact wpAny_pyIter_tuple (show s1.heap.IsTuple a its.toArray from pl) ⟨_, _, _, _, H1, rfl, I1.kept (t' := s1.toks) fun b o y => Heap.get?_push_of_some _ y, turn_tuple a _, ⟨_, Heap.get?_push_size _ rfl, rfl, rfl⟩, fp, q⟩
def rLcm : List V → Hp → VK → Prop := fun vs H Q => ∃ a b : Int, vs = [.int a, .int b] ∧ a.natAbs < 2 ^ 64 ∧ b.natAbs < 2 ^ 64 ∧ Q (.int ((Nat.lcm a.natAbs b.natAbs : Nat) : Int)) H
theorem cr_lcm {X : Cx} : CallR X (.builtin "math.lcm") rLcm := by
  intro pins s σ H vs us Q I r h
  obtain ⟨a, b, rfl, ha, hb, q⟩ := h
  obtain ⟨t, u, rfl⟩ := Vals.int2 r
  have e1 : Nat.lcm 1 a.natAbs = a.natAbs := Nat.lcm_one_left _
  refine PySem.W.mg_lcm ha hb ?_ ?_
  · rw [e1]
    have : Nat.lcm a.natAbs b.natAbs < 2 ^ 128 := by
      have h1 : Nat.lcm a.natAbs b.natAbs ≤ a.natAbs * b.natAbs := Nat.div_le_self _ _
      have h2 : a.natAbs * b.natAbs < 2 ^ 64 * 2 ^ 64 := Nat.mul_lt_mul'' ha hb
      exact Nat.lt_of_le_of_lt h1 h2
    exact Nat.lt_of_lt_of_le (PySem.Flt.log2_lt_of (by decide) (show ((Nat.lcm a.natAbs b.natAbs : Nat) : Int).natAbs < 2 ^ 128 from this)) (by decide)
  · rw [e1]
    exact ⟨.int _, H, I.tok _, ⟨_, rfl⟩, q⟩
end Gd

/-! The end of a law whose promise wants to know what is under way: it is called by the judge's caller, where nothing is. -/
namespace Gd
open PySem PySem.Spec PyProof.Rows L2 LamX
/-- what is tracked ahead of the law's call: the tables ts, and the script at a unless it is of the written part -/
def h0 (ts : List Addr) (w : Bool) (a : Addr) (o : Obj) (xs : List V) : Hp := fun b => if b ∈ ts then some (.tbl #[]) else if w = true ∧ b = a then some (.frz o (.lst xs)) else none
section
variable {ts : List Addr} {w : Bool} {a b : Addr} {o : Obj} {xs : List V}
theorem h0_tab (h : b ∈ ts) : h0 ts w a o xs b = some (.tbl #[]) := if_pos h
theorem h0_at (h : a ∉ ts) (hw : w = true) : h0 ts w a o xs a = some (.frz o (.lst xs)) := by unfold h0; rw [if_neg h, if_pos ⟨hw, rfl⟩]
theorem h0_none (h : b ∉ ts) (h2 : ¬ (w = true ∧ b = a)) : h0 ts w a o xs b = none := by unfold h0; rw [if_neg h, if_neg h2]
theorem h0_cases (b : Addr) : (b ∈ ts ∧ h0 ts w a o xs b = some (.tbl #[])) ∨ (b ∉ ts ∧ w = true ∧ b = a ∧ h0 ts w a o xs b = some (.frz o (.lst xs))) ∨ (b ∉ ts ∧ ¬ (w = true ∧ b = a) ∧ h0 ts w a o xs b = none) := by
  by_cases h : b ∈ ts
  · exact .inl ⟨h, h0_tab h⟩
  · by_cases h2 : w = true ∧ b = a
    · exact .inr (.inl ⟨h, h2.1, h2.2, by obtain ⟨hw, rfl⟩ := h2; exact h0_at h hw⟩)
    · exact .inr (.inr ⟨h, h2, h0_none h h2⟩)
end
/-- what is known of the law's promise at the head's heap h -/
def LawG (l : PySem.W.OpenLaw) (w : World) (K : PySem.W.Frag) (k n : Nat) (x : Str) (mg : Str → Option Value) (fa : Addr) (h : Heap) : Prop :=
  ∃ (fd : FuncData) (cs : List (Addr × Addr)) (sp : Sp), (∀ p ∈ cs, h.get? p.2 = some { cls := .none, data := .fields #[] }) ∧ (∀ p ∈ cs, K.lookup p.2 = none) ∧ (∀ p ∈ cs, PySem.W.CodeHd h p.1 p.2) ∧ (∀ (s : Shared) (u : Value), BindsTo s fd ⟨[u], []⟩ [(x, u)]) ∧
    (∀ (H : Hp) (a : Addr) (ns : List Int), ns.length ≤ n → (∀ z ∈ ns, Builtin.Int.intBits z ≤ 1048576) → (∀ p ∈ cs, H p.2 = some (.tbl #[])) → SqL K H a (ns.map V.int) → sp [.ref a] H (fun v _ => v = .bl true) fun _ _ _ => False) ∧
    ∀ base : Heap, K.In base → base.Ns mainGlobals mg → (∀ p ∈ cs, TabB base mg p.1 p.2) → FnG l.prog w K mg base CX0 k fa fd [x] sp
section
variable {P : Program} {w : World} {K : PySem.W.Frag} {mg mb : Str → Option Value} {k : Nat} {fa a : Addr} {cs : List (Addr × Addr)} {fd : FuncData} {x : Str} {sp : Sp} {s₁ : Shared} {vs : List Value} {ns : List Int}
theorem law_callG (KX : K.In s₁.heap) (hns : s₁.heap.Ns mainGlobals mg) (hb : s₁.heap.Ns builtinsNs mb) (hbb : ∀ x : Str, x ≠ "__name__" → mb x = bootBuiltins x) (hlim : s₁.heap.NoLimit) (hg : s₁.gens = #[])
    (hT : ∀ p ∈ cs, s₁.heap.get? p.2 = some { cls := .none, data := .fields #[] }) (nT : ∀ p ∈ cs, K.lookup p.2 = none) (C : ∀ p ∈ cs, PySem.W.CodeHd s₁.heap p.1 p.2)
    (hbm : ∃ (bm : Addr) (ob : Obj), mg "__builtins__" = some (.ref bm) ∧ bm ≠ builtinsNs ∧ s₁.heap.get? bm = some ob ∧ ob.cls = .type "module" ∧ ob.dict = some builtinsNs ∧ ob.data = .plain)
    (ha : s₁.heap.get? a = some { cls := .type "list", data := .seq vs.toArray }) (hi : IntsAre vs ns) (hl : ns.length ≤ sizeLine) (hr : Room k callerA)
    (F : ∀ base : Heap, K.In base → base.Ns mainGlobals mg → (∀ p ∈ cs, TabB base mg p.1 p.2) → FnG P w K mg base CX0 k fa fd [x] sp) (hbind : ∀ (s : Shared) (u : Value), BindsTo s fd ⟨[u], []⟩ [(x, u)])
    (hsp : ∀ H : Hp, (∀ p ∈ cs, H p.2 = some (.tbl #[])) → SqL K H a (ns.map V.int) → sp [.ref a] H (fun v _ => v = .bl true) fun _ _ _ => False) :
    codeAny (model P w) callerA (.call (.ref fa) ⟨[.ref a], []⟩) (fun r s' => r = .ok (.ret (.bool true)) ∧ OldK s₁.heap s'.heap ∧ s'.os = s₁.os ∧ AllBare s'.gens) s₁ := by
  have rv := vals_ints hi
  have nlen := hi.length
  let ts := cs.map (·.2)
  have tabAt : ∀ b, b ∈ ts → s₁.heap.get? b = some { cls := .none, data := .fields #[] } ∧ K.lookup b = none := fun b hb => by
    obtain ⟨p, hp, rfl⟩ := List.mem_map.mp hb
    exact ⟨hT p hp, nT p hp⟩
  have inT : ∀ p ∈ cs, p.2 ∈ ts := fun p hp => List.mem_map.mpr ⟨p, hp, rfl⟩
  have aT : a ∉ ts := fun z => by
    have q := (tabAt a z).1
    rw [ha] at q
    exact absurd (congrArg Obj.data (Option.some.inj q)) (fun z => by cases z)
  let wr : Bool := (K.lookup a).isNone
  let H : Hp := h0 ts wr a { cls := .type "list", data := .seq vs.toArray } (ns.map V.int)
  -- the script is read
  have hS : SqL K H a (ns.map V.int) := by
    cases hk : K.lookup a with
    | none => exact .inl (.inr ⟨_, h0_at aT (by show (K.lookup a).isNone = true; rw [hk]; rfl)⟩)
    | some o =>
      have e := KX a o hk
      rw [ha] at e
      cases e
      exact .inr ⟨_, vs.toArray, _, hk, rfl, rfl, rfl, by rw [List.size_toArray, nlen]; exact hl, by simpa using rv⟩
  have hok : HOk P w H s₁.heap := fun b u e => by
    rcases h0_cases (ts := ts) (w := wr) (a := a) (o := { cls := .type "list", data := .seq vs.toArray }) (xs := ns.map V.int) b with ⟨h, q⟩ | ⟨_, _, rfl, q⟩ | ⟨_, _, q⟩
    · cases q.symm.trans e
      exact (tabAt b h).1
    · cases q.symm.trans e
      exact ⟨ha, by rw [List.length_map]; exact hl, vs, _, rv, ha⟩
    · cases q.symm.trans e
  -- an object that is neither a table nor the script is untracked
  have free : ∀ {b : Addr} {o : Obj}, s₁.heap.get? b = some o → o.data ≠ .fields #[] → (∀ us n, o.data ≠ .seq us n) → H b = none := fun {b o} e h1 h2 => by
    refine h0_none (fun z => ?_) (fun z => ?_)
    · rw [(tabAt b z).1] at e
      cases e
      exact h1 rfl
    · rw [z.2, ha] at e
      cases e
      exact h2 _ _ rfl
  have stay : ∀ {b : Addr} {o : Obj}, s₁.heap.get? b = some o → o.data ≠ .fields #[] → (∀ us n, o.data ≠ .seq us n) → (hidT s₁.heap H).get? b = some o := fun e h1 h2 => hidT_get e (free e h1 h2)
  have nsStay : ∀ {b : Addr} {m : Str → Option Value}, s₁.heap.Ns b m → (hidT s₁.heap H).Ns b m := fun {b m} ⟨o, es, ep, e, d, r⟩ => ⟨o, es, ep, stay e (fun z => by rw [d] at z; cases z) (fun _ _ z => by rw [d] at z; cases z), d, r⟩
  have KB : K.In (hidT s₁.heap H) := fun b o e => hidT_get (KX b o e) (by
    refine h0_none (fun z => ?_) (fun z => ?_)
    · rw [(tabAt b z).2] at e; cases e
    · have hw : (K.lookup a).isNone = true := z.1
      rw [z.2] at e
      rw [e] at hw; cases hw)
  have hM : L2.Mod K mg (hidT s₁.heap H) := by
    obtain ⟨mc, h1, h2⟩ := hlim
    exact ⟨KB, nsStay hns, ⟨mb, nsStay hb, hbb⟩, ⟨mc, nsStay h1, h2⟩⟩
  have TB : ∀ p ∈ cs, TabB (hidT s₁.heap H) mg p.1 p.2 := fun p hp => by
    have hTp := hT p hp
    refine ⟨?_, ?_, ?_⟩
    · obtain ⟨o, us, file, tf, flags, tg, inF, text, tt, e1, r1, r2, r3, r4, r5, r6, r7, r8, hne⟩ := C p hp
      exact ⟨o, us, file, tf, flags, tg, inF, text, tt, stay e1 (fun z => by rw [r2] at z; cases z; simp at r3) (fun _ _ z => by rw [r2] at z; cases z), r1, r2, r3, r4, r5, r6, r7, r8, hne⟩
    · obtain ⟨bm, ob, b1, b2, b3, b4, b5, b6⟩ := hbm
      refine ⟨bm, ob, b1, b2, fun q => ?_, fun q => ?_, stay b3 (fun z => by rw [b6] at z; cases z) (fun _ _ z => by rw [b6] at z; cases z), b4, b5, b6⟩
      · obtain ⟨o, es, ep, e, hd, _⟩ := hns
        rw [q, e] at b3
        cases b3
        rw [hd] at b6; cases b6
      · rw [q, hTp] at b3
        cases b3
        cases b6
    · intro z
      obtain ⟨o, es, ep, e, hd, _⟩ := hns
      rw [z, hTp] at e
      cases e
      cases hd
  have e0 : Env0 P w K mg (hidT s₁.heap H) callerA [] s₁ H := ⟨rfl, hM, fun b o e => of_hidT e, Nat.le_of_eq (hidT_size _ _), trivial, fun b z => absurd z (by simp [frs]), hok, .of_eq hg⟩
  refine codeAny_mono ((F _ KB (nsStay hns) TB).run callerA [] s₁ H ⟨[.ref a], []⟩ [.ref a] [.ref a] _ _ rfl hr e0 (hbind s₁ (.ref a)) (.cons rfl .nil) (hsp H (fun p hp => h0_tab (inT p hp)) hS)) fun r s' h => ?_
  cases r with
  | error e => exact (show False from h).elim
  | ok fl =>
    cases fl with
    | next => exact False.elim h
    | brk => exact False.elim h
    | cont => exact False.elim h
    | ret u =>
      obtain ⟨v, H', os, bare, un, hok', r', q⟩ := h
      obtain rfl : v = .bl true := q
      obtain rfl : u = Value.bool true := r'
      have kept : ∀ b o, b ∉ ts → s₁.heap.get? b = some o → s'.heap.get? b = some o := fun b o nb e => by
        rcases h0_cases (ts := ts) (w := wr) (a := a) (o := { cls := .type "list", data := .seq vs.toArray }) (xs := ns.map V.int) b with ⟨h, _⟩ | ⟨_, _, rfl, q⟩ | ⟨_, _, q⟩
        · exact absurd h nb
        · obtain ⟨e2, _⟩ := hok' b _ (un.frzs b _ _ q)
          rw [ha] at e
          rw [← e]; exact e2
        · exact un.keep b o e q (by simp [frs]) (by simp)
      have grown : ∀ p ∈ cs, ∃ more : Array Value, s'.heap.get? p.2 = some { cls := .none, data := .fields more } := fun p hp => by
        obtain ⟨more, z⟩ := un.tbls p.2 #[] (h0_tab (inT p hp))
        exact ⟨_, hok' p.2 _ z⟩
      refine ⟨rfl, ⟨fun b o e => ?_, fun b o e => ?_⟩, os, bare⟩
      · by_cases hbt : b ∈ ts
        · obtain ⟨p, hp, rfl⟩ := List.mem_map.mp hbt
          obtain ⟨more, hm⟩ := grown p hp
          rw [hT p hp] at e
          cases e
          exact .inr (.inl ⟨((C p hp).tab (hT p hp)).isCodeTable, rfl, #[], more, rfl, by rw [Array.empty_append]; exact hm⟩)
        · exact .inl (kept b o hbt e)
      · by_cases hbt : b ∈ ts
        · obtain ⟨p, hp, rfl⟩ := List.mem_map.mp hbt
          obtain ⟨more, hm⟩ := grown p hp
          exact ⟨_, hm⟩
        · exact ⟨o, kept b o hbt e⟩
end
theorem walk_ofG {l : PySem.W.OpenLaw} {n k : Nat} {q : Program} {loose : List Str} {XP : (Str → Option Value) → Heap → Prop} {YP : World → Heap → Prop} {d : DefRec} {x : Str}
    (hn : l.most = some n) (hn2 : n ≤ sizeLine) (hdf : d.params.defaults = []) (hr : Room k callerA)
    (F : ∀ (w : World) (mg : Str → Option Value) (fa : Addr) (h : Heap), YP w h → h.Ns mainGlobals mg → mg d.name = some (.ref fa) → ∃ K : PySem.W.Frag, K.In h ∧ LawG l w K k n x mg fa h) :
    PySem.W.WalkO q loose XP YP l.row.toRowW d [] (fun f vs => PySem.call f vs) := by
  refine Att.attach_callB hn hdf fun w s₀ s₁ mg mb fa o pm cd doc a vs ns G Y ho hd hcd hmg hobj hints hlen hbits hg => ?_
  obtain ⟨K, KX, fd, cs, sp, hT, nT, C, hb, hsp, hF⟩ := F w mg fa _ Y G.T.g hmg
  exact law_callG KX G.T.g G.T.b G.T.builtins G.T.nolimit hg hT nT C G.T.bmain hobj hints (Nat.le_trans hlen hn2) hr hF hb (fun H hH hS => hsp H a ns hlen hbits hH hS)
end Gd

/-! a comprehension over zip of two tuples; a statement that is not reached; in of a dict. -/
namespace Gd
open PySem PySem.Spec PyProof.Rows L2
theorem lc_zipM {K : PySem.W.Frag} {a b : Addr} {xs ys : List V} {g : TG} {tt : TT} {te : TE} {vs : List Nat} {σ : L2.St} {H1 : Hp} {D : Addr} {Qd : Hp → Prop} (n : Nat) (hn : n = min xs.length ys.length) (Pv : Nat → Hp → Prop) (h0 : Pv 0 (upd H1 D (.lst []))) (hq : ∀ i H, Pv i H → SqT K H a xs ∧ SqT K H b ys)
    (hs : ∀ (i : Nat) (x y : V) (T : Addr) (H : Hp), xs[i]? = some x → ys[i]? = some y → Pv i H → H T = none → g (.ref T) (wipe σ vs) (upd H T (.tup [x, y])) fun σ2 H2 => wipe σ2 vs = wipe σ vs ∧ tt σ2 H2 fun b H3 =>
      if b = true then te σ2 H3 fun y H4 => ∃ acc, H4 D = some (.lst acc) ∧ acc.length < sizeLine ∧ Pv (i + 1) (upd H4 D (.lst (acc ++ [y]))) else Pv (i + 1) H3) (hd : ∀ H, Pv n H → Qd H) :
    ∃ W : Nat → Nat → Hp → Prop, (∃ m, W 0 m (upd H1 D (.lst []))) ∧ ∀ i m H, W i m H →
      ((RZ.ItzT K a b).stop i H ∧ Qd H) ∨ ((RZ.ItzT K a b).go i H ∧ ∃ Nx : Hp → Prop, (∀ H', Nx H' → ∃ m', m' < m ∧ W (i + 1) m' H') ∧ ∀ x H', (RZ.ItzT K a b).yld i H x H' → g x (wipe σ vs) H' fun σ2 H2 => wipe σ2 vs = wipe σ vs ∧ tt σ2 H2 fun b H3 =>
        if b = true then te σ2 H3 fun y H4 => ∃ acc, H4 D = some (.lst acc) ∧ acc.length < sizeLine ∧ Nx (upd H4 D (.lst (acc ++ [y]))) else Nx H3) := by
  refine ⟨fun i m H => m = n - i ∧ i ≤ n ∧ Pv i H, ⟨n, rfl, Nat.zero_le _, h0⟩, ?_⟩
  rintro i m H ⟨rfl, hi, p⟩
  obtain ⟨qx, qy⟩ := hq i H p
  by_cases hlt : i < n
  · have hlt1 : i < xs.length := by omega
    have hlt2 : i < ys.length := by omega
    have hx : xs[i]? = some xs[i] := List.getElem?_eq_getElem hlt1
    have hy : ys[i]? = some ys[i] := List.getElem?_eq_getElem hlt2
    refine .inr ⟨⟨xs, ys, _, _, qx, qy, hx, hy⟩, Pv (i + 1), fun H' p' => ⟨n - (i + 1), by omega, rfl, hlt, p'⟩, fun v H' y => ?_⟩
    obtain ⟨T, x', y', rfl, hT, rfl, f1, f2⟩ := y
    exact hs i x' y' T H (f1 xs qx) (f2 ys qy) p hT
  · have e : i = n := by omega
    subst e
    exact .inl ⟨⟨xs, ys, qx, qy, by omega⟩, hd H p⟩
section
variable {X : Cx}
/-- a statement that is never reached -/
theorem ps_dead {st : Stmt} : PS X st (fun _ _ _ => False) := ⟨fun _ _ _ _ _ _ h => h.elim⟩
theorem pe_dead {e : Expr} : PE X e (fun _ _ _ => False) := ⟨fun _ _ _ _ _ _ h => h.elim⟩
theorem pss_dead {b : List Stmt} : PSs X b (fun _ _ _ => False) := ⟨fun _ _ _ _ _ _ h => h.elim⟩
def rInDc : R2 := fun x y H Q => ∃ a o, y = .ref a ∧ DGet H a x o ∧ Q (.bl o.isSome) H
def rNotInDc : R2 := fun x y H Q => ∃ a o, y = .ref a ∧ DGet H a x o ∧ Q (.bl (!o.isSome)) H
theorem op_inDc (hu : X.A.units + 1 < cLine) : OpR X (compareOp .In) rInDc := by
  intro pins s σ H x y v u Q I rx ry h
  obtain ⟨a, o, rfl, g, q⟩ := h
  cases ry
  exact d_in hu I g rx fun s1 I1 => ⟨.bl _, H, I1, rfl, q⟩
theorem op_notInDc (hu : X.A.units + 1 < cLine) : OpR X (compareOp .NotIn) rNotInDc := by
  intro pins s σ H x y v u Q I rx ry h
  obtain ⟨a, o, rfl, g, q⟩ := h
  cases ry
  exact d_notIn hu I g rx fun s1 I1 => ⟨.bl _, H, I1, rfl, q⟩
end
theorem _root_.L2.Room.units1 {k : Nat} {A : Around} (hr : Room k A) : A.units + 1 < cLine := by have := hr.un; omega
end Gd
namespace Gd
open PySem PySem.Spec PyProof.Rows L2
/-- a walk over a tuple, whatever a turn does -/
theorem walk_tup {K : PySem.W.Frag} {a : Addr} {xs : List V} {B : V → Hp → (Hp → Prop) → Prop} {H0 : Hp} {Qd : Hp → Prop} (Pv : Nat → Hp → Prop) (h0 : Pv 0 H0) (hl : ∀ i H, i ≤ xs.length → Pv i H → SqT K H a xs)
    (hs : ∀ i x H, xs[i]? = some x → Pv i H → B x H (Pv (i + 1))) (hd : ∀ H, Pv xs.length H → Qd H) :
    ∃ W : Nat → Nat → Hp → Prop, (∃ m, W 0 m H0) ∧ ∀ i m H, W i m H →
      ((Itt K a).stop i H ∧ Qd H) ∨ ((Itt K a).go i H ∧ ∃ Nx : Hp → Prop, (∀ H', Nx H' → ∃ m', m' < m ∧ W (i + 1) m' H') ∧ ∀ x H', (Itt K a).yld i H x H' → B x H' Nx) := by
  refine ⟨fun i m H => m = xs.length - i ∧ i ≤ xs.length ∧ Pv i H, ⟨xs.length, by simp, Nat.zero_le _, h0⟩, ?_⟩
  rintro i m H ⟨rfl, hi, p⟩
  have q := hl i H hi p
  by_cases hlt : i < xs.length
  · refine .inr ⟨⟨xs, xs[i], q, by simp [hlt]⟩, Pv (i + 1), fun H' p' => ⟨xs.length - (i + 1), by omega, rfl, hlt, p'⟩, fun x H' y => ?_⟩
    obtain ⟨e, y⟩ := y
    subst e
    exact hs i x _ (y xs q) p
  · have e : i = xs.length := by omega
    subst e
    exact .inl ⟨⟨xs, q, Nat.le_refl _⟩, hd H p⟩
end Gd
namespace Gd
open PySem PySem.Spec PyProof.Rows L2
/-- a walk over a text's signs -/
theorem walk_str {x : Str} {B : V → Hp → (Hp → Prop) → Prop} {H0 : Hp} {Qd : Hp → Prop} (Pv : Nat → Hp → Prop) (h0 : Pv 0 H0)
    (hs : ∀ i c H, x.cps[i]? = some c → Pv i H → B (.str ⟨#[c]⟩) H (Pv (i + 1))) (hd : ∀ H, Pv x.cps.size H → Qd H) :
    ∃ W : Nat → Nat → Hp → Prop, (∃ m, W 0 m H0) ∧ ∀ i m H, W i m H →
      ((Its x).stop i H ∧ Qd H) ∨ ((Its x).go i H ∧ ∃ Nx : Hp → Prop, (∀ H', Nx H' → ∃ m', m' < m ∧ W (i + 1) m' H') ∧ ∀ v H', (Its x).yld i H v H' → B v H' Nx) := by
  refine ⟨fun i m H => m = x.cps.size - i ∧ i ≤ x.cps.size ∧ Pv i H, ⟨x.cps.size, by simp, Nat.zero_le _, h0⟩, ?_⟩
  rintro i m H ⟨rfl, hi, p⟩
  by_cases hlt : i < x.cps.size
  · refine .inr ⟨hlt, Pv (i + 1), fun H' p' => ⟨x.cps.size - (i + 1), by omega, rfl, hlt, p'⟩, fun v H' y => ?_⟩
    obtain ⟨rfl, c, hc, rfl⟩ := y
    exact hs i c _ hc p
  · have e : i = x.cps.size := by omega
    subst e
    exact .inl ⟨Nat.le_refl _, hd H p⟩
end Gd

namespace Own
open PySem PySem.Spec PyProof.Rows L2 SX
/-! ### the store of numbers that the draws eat -/
structure HpL (H : Hp) (h q : Addr) (cs : List Int) (st : Int) : Prop where
  ne : h ≠ q
  hh : H h = some (.lst [.ref q, .int st])
  hq : H q = some (.lst (cs.map V.int))
  nn : ∀ c ∈ cs, 0 ≤ c
  ln : cs.length ≤ 60
  s0 : 0 ≤ st
  s1 : st < 2147483647
def HpAt (H : Hp) (h q : Addr) : Prop := ∃ cs st, HpL H h q cs st
def Kpt (h q : Addr) (H H' : Hp) : Prop := ∀ b o, H b = some o → b ≠ h → b ≠ q → H' b = some o
theorem Kpt.refl (h q : Addr) (H : Hp) : Kpt h q H H := fun _ _ e _ _ => e
theorem Kpt.trans {h q : Addr} {H H1 H2 : Hp} (a : Kpt h q H H1) (b : Kpt h q H1 H2) : Kpt h q H H2 := fun c o e n1 n2 => b c o (a c o e n1 n2) n1 n2
theorem Kpt.of_same {h q : Addr} {H H' : Hp} (s : Same H H') : Kpt h q H H' := fun b o e _ _ => s b o e
theorem Kpt.at_q {h q : Addr} {H : Hp} {o : HO} : Kpt h q H (upd H q o) := fun b x e _ n => by rw [upd_ne n]; exact e
theorem Kpt.at_h {h q : Addr} {H : Hp} {o : HO} : Kpt h q H (upd H h o) := fun b x e n _ => by rw [upd_ne n]; exact e
theorem HpL.same {H H' : Hp} {h q : Addr} {cs : List Int} {st : Int} (a : HpL H h q cs st) (s : Same H H') : HpL H' h q cs st := ⟨a.ne, s _ _ a.hh, s _ _ a.hq, a.nn, a.ln, a.s0, a.s1⟩
theorem HpAt.same {H H' : Hp} {h q : Addr} (a : HpAt H h q) (s : Same H H') : HpAt H' h q := by
  obtain ⟨cs, st, a⟩ := a
  exact ⟨cs, st, a.same s⟩
theorem HpL.put {H : Hp} {h q : Addr} {cs : List Int} {st : Int} (a : HpL H h q cs st) (ds : List Int) (nn : ∀ c ∈ ds, 0 ≤ c) (ln : ds.length ≤ 60) : HpL (upd H q (.lst (ds.map V.int))) h q ds st :=
  ⟨a.ne, by rw [upd_ne a.ne]; exact a.hh, upd_same, nn, ln, a.s0, a.s1⟩
theorem HpAt.fresh {H : Hp} {h q p : Addr} (a : HpAt H h q) (np : H p = none) : p ≠ h ∧ p ≠ q := by
  obtain ⟨cs, st, a⟩ := a
  exact ⟨(ne_of_none a.hh np).symm, (ne_of_none a.hq np).symm⟩
theorem dp_ints {K : PySem.W.Frag} {H : Hp} : ∀ cs : List Int, DpAll K H (cs.map V.int) (cs.map PyData.int)
  | [] => .nil
  | c :: r => .cons (.int c) (dp_ints r)
theorem shp_ints (ns : List Int) : SeqAt.shaped (.list (ns.map PyData.int)) = true := PySem.W.ke_shaped_ints ns
theorem Kpt.free {h q D : Addr} {H H1 : Hp} (k : Kpt h q H H1) (n : H1 D = none) (n1 : D ≠ h) (n2 : D ≠ q) : H D = none := by
  cases e : H D with
  | none => rfl
  | some o => rw [k _ _ e n1 n2] at n; cases n
theorem Kpt.at_new {h q D : Addr} {H H1 : Hp} {o : HO} (k : Kpt h q H H1) (n : H D = none) : Kpt h q H (upd H1 D o) := fun b x e n1 n2 => by
  rw [upd_ne (ne_of_none e n)]; exact k _ _ e n1 n2
theorem HpAt.upd {H : Hp} {h q D : Addr} {o : HO} (a : HpAt H h q) (n1 : D ≠ h) (n2 : D ≠ q) : HpAt (upd H D o) h q := by
  obtain ⟨cs, st, a⟩ := a
  exact ⟨cs, st, a.ne, by rw [upd_ne n1.symm]; exact a.hh, by rw [upd_ne n2.symm]; exact a.hq, a.nn, a.ln, a.s0, a.s1⟩
theorem cut60 (ns : List Int) : cutV (ns.map V.int) none (some 60) = (ns.take 60).map V.int := by
  unfold cutV
  rw [HT.sIx_none, show HT.sIx (ns.map V.int).length (ns.map V.int).length (some 60) = min 60 (ns.map V.int).length from HT.sIx_nat _ _ 60, List.drop_zero, Nat.sub_zero, List.map_take]
  by_cases h : 60 ≤ (ns.map V.int).length
  · rw [Nat.min_eq_left h]
  · rw [Nat.min_eq_right (by omega), List.take_length, List.take_of_length_le (by omega)]
theorem get_int {ns : List Int} {i : Nat} {x : V} (h : (ns.map V.int)[i]? = some x) : ∃ z, ns[i]? = some z ∧ x = .int z := by
  rw [List.getElem?_map] at h
  cases e : ns[i]? with
  | none => rw [e] at h; cases h
  | some z => rw [e] at h; exact ⟨z, rfl, (Option.some.inj h).symm⟩
end Own

/-! zip of three tuples in a loop, tuple(zip(list, list)), len(set(tuple of integers)). -/
namespace Z3
open PySem PySem.Spec PyProof.Rows L2 RZ
/-! ### three tuples side by side -/
def ItzT3 (K : PySem.W.Frag) (a b c : Addr) : It :=
  ⟨fun i H => ∃ (xs ys zs : List V) (x y z : V), SqT K H a xs ∧ SqT K H b ys ∧ SqT K H c zs ∧ xs.length = ys.length ∧ ys.length = zs.length ∧ xs[i]? = some x ∧ ys[i]? = some y ∧ zs[i]? = some z,
    fun i H v H' => ∃ T x y z, v = .ref T ∧ H T = none ∧ H' = upd H T (.tup [x, y, z]) ∧ (∀ xs, SqT K H a xs → xs[i]? = some x) ∧ (∀ ys, SqT K H b ys → ys[i]? = some y) ∧ ∀ zs, SqT K H c zs → zs[i]? = some z,
    fun i H => ∃ xs ys zs : List V, SqT K H a xs ∧ SqT K H b ys ∧ SqT K H c zs ∧ xs.length = i ∧ ys.length = i ∧ zs.length = i⟩
theorem turn_zip3 {P : Program} {w : World} {K : PySem.W.Frag} {elts : List Expr} {kk : Nat} {tpos : Pos} {a b c z TI TO i1 i2 i3 : Addr} (D : ZipSep3 z TI TO i1 i2 i3 [i1, a] [i2, b] [i3, c]) (na : a ≠ i1) (nb : b ≠ i2) (nc : c ≠ i3) :
    Turn P w K (.Tuple elts kk tpos) (ItzT3 K a b c) [z, TI, TO, i1, i2, i3] z (fun i h => IsZip h z TI TO .none ∧ IsTupOf3 h TI (.ref i1) (.ref i2) (.ref i3) ∧ (∃ x y v, IsTupOf3 h TO x y v) ∧ h.IsTupleIter i1 a i ∧ h.IsTupleIter i2 b i ∧ h.IsTupleIter i3 c i) where
  mem := by simp
  obj := fun i h st e hc => by
    obtain ⟨hz, hTI, ⟨x, y, v, hTO⟩, ⟨o1, e1, _, d1⟩, ⟨o2, e2, _, d2⟩, ⟨o3, e3, _, d3⟩⟩ := st
    have e' : e = z ∨ e = TI ∨ e = TO ∨ e = i1 ∨ e = i2 ∨ e = i3 := by simpa using hc
    rcases e' with q | q | q | q | q | q
    · rw [q]; exact ⟨_, hz, fun v q => nomatch q⟩
    · rw [q]; exact ⟨_, hTI, fun v q => nomatch q⟩
    · rw [q]; exact ⟨_, hTO, fun v q => nomatch q⟩
    · rw [q]; exact ⟨o1, e1, fun v q => by rw [d1] at q; cases q⟩
    · rw [q]; exact ⟨o2, e2, fun v q => by rw [d2] at q; cases q⟩
    · rw [q]; exact ⟨o3, e3, fun v q => by rw [d3] at q; cases q⟩
  keep := fun i h h' st k => by
    obtain ⟨hz, hTI, ⟨x, y, v, hTO⟩, h1, h2, h3⟩ := st
    exact ⟨k z (by simp) _ hz, k TI (by simp) _ hTI, ⟨x, y, v, k TO (by simp) _ hTO⟩, h1.at fun o q => k i1 (by simp) o q, h2.at fun o q => k i2 (by simp) o q, h3.at fun o q => k i3 (by simp) o q⟩
  item := by
    intro X hP hw hK hc i pins s σ H E I hf st hg
    subst hP hw hK
    obtain ⟨hz, hTI, ⟨x0, y0, v0, hTO⟩, h1, h2, h3⟩ := st
    obtain ⟨xs, ys, zs, x, y, v, hqx, hqy, hqz, le1, le2, hx, hy, hv⟩ := hg
    obtain ⟨its, rv, p, _⟩ := I.tuple hqx
    obtain ⟨its2, rv2, p2, _⟩ := I.tuple hqy
    obtain ⟨its3, rv3, p3, _⟩ := I.tuple hqz
    obtain ⟨u, hu, ru⟩ := rv.get hx
    obtain ⟨u2, hu2, ru2⟩ := rv2.get hy
    obtain ⟨u3, hu3, ru3⟩ := rv3.get hv
    have hzl : z < s.heap.objs.size := Heap.lt_size hz
    have hh : X.A.in1.in1.handled = none := I.ok.hd hc
    have l1 : i < its.toArray.size := by have := (List.getElem?_eq_some_iff.mp hu).1; simpa using this
    have l2 : i < its2.toArray.size := by have := (List.getElem?_eq_some_iff.mp hu2).1; simpa using this
    have l3 : i < its3.toArray.size := by have := (List.getElem?_eq_some_iff.mp hu3).1; simpa using this
    refine wpAny_pyNext_zipD3_item (A := X.A) D (Draws.tuple (A := X.A.in1) hh i1 a na its.toArray) (Draws.tuple (A := X.A.in1) hh i2 b nb its2.toArray) (Draws.tuple (A := X.A.in1) hh i3 c nc its3.toArray) hz hTI hTO ⟨h1, p⟩ ⟨h2, p2⟩ ⟨h3, p3⟩ l1 l2 l3 fun x1 x2 x3 h' tk e1 e2 e3 z' TO' q1 q2 q3 hT hsz hk => ?_
    obtain rfl : x1 = u := by
      have : its[i]? = some x1 := by simpa using e1
      rw [hu] at this; exact (Option.some.inj this).symm
    obtain rfl : x2 = u2 := by
      have : its2[i]? = some x2 := by simpa using e2
      rw [hu2] at this; exact (Option.some.inj this).symm
    obtain rfl : x3 = u3 := by
      have : its3[i]? = some x3 := by simpa using e3
      rw [hu3] at this; exact (Option.some.inj this).symm
    refine ⟨_, rfl, wpAny_letOwnedTupleGo_zip (s := { s with heap := h', toks := tk }) z' fun h'' z'' sb => ?_⟩
    have hT2 : h''.get? s.heap.objs.size = some { cls := .type "tuple", data := .seq #[x1, x2, x3] } := (sb.2 _ (Nat.ne_of_gt hzl)).trans hT
    have new : ObjOk X.prog X.w (upd H s.heap.objs.size (.tup [x, y, v])) h'' s.heap.objs.size (.tup [x, y, v]) :=
      ⟨by show 3 ≤ sizeLine; decide, [x1, x2, x3], .cons ru (.cons ru2 (.cons ru3 .nil)), ⟨_, hT2, rfl, _, rfl⟩⟩
    have I1 : Inv X pins σ (upd H s.heap.objs.size (.tup [x, y, v])) { s with heap := h'', toks := tk } :=
      I.turnedNew (t' := tk) (ch := [z, TI, TO, i1, i2, i3]) (fun c o hb q => (sb.2 c (fun q' => hb (by simp [q']))).trans (hk c o (fun q' => hb (by simp [q'])) (fun q' => hb (by simp [q'])) (fun q' => hb (by simp [q'])) (fun q' => hb (by simp [q'])) (fun q' => hb (by simp [q'])) q)) hf (Nat.le_refl _) new
    refine ⟨.ref s.heap.objs.size, _, I1, rfl, ⟨_, x, y, v, rfl, I.hok.fresh (Nat.le_refl _), rfl, fun l hl => by rw [I.tuple_inj hl hqx]; exact hx, fun l hl => by rw [I.tuple_inj hl hqy]; exact hy, fun l hl => by rw [I.tuple_inj hl hqz]; exact hv⟩, ⟨z'', ?_, ⟨x1, x2, x3, ?_⟩, ?_, ?_, ?_⟩, fun e hcm => ?_⟩
    · exact (sb.2 _ D.TIz).trans (hk _ _ D.TIz D.TITO D.TIi1 D.TIi2 D.TIi3 hTI)
    · exact (sb.2 _ D.TOz).trans TO'
    · exact q1.1.at fun o q => (sb.2 _ D.zi1.symm).trans q
    · exact q2.1.at fun o q => (sb.2 _ D.zi2.symm).trans q
    · exact q3.1.at fun o q => (sb.2 _ D.zi3.symm).trans q
    · have hlt : e < s.heap.objs.size := by
        have e' : e = z ∨ e = TI ∨ e = TO ∨ e = i1 ∨ e = i2 ∨ e = i3 := by simpa using hcm
        rcases e' with q | q | q | q | q | q
        · rw [q]; exact hzl
        · rw [q]; exact Heap.lt_size hTI
        · rw [q]; exact Heap.lt_size hTO
        · rw [q]; obtain ⟨_, e1, _⟩ := h1; exact Heap.lt_size e1
        · rw [q]; obtain ⟨_, e2, _⟩ := h2; exact Heap.lt_size e2
        · rw [q]; obtain ⟨_, e3, _⟩ := h3; exact Heap.lt_size e3
      rw [upd_ne (Nat.ne_of_lt hlt)]
      exact (hf e hcm).1
  done := by
    intro X hP hw hK hc i pins s σ H E I hf st hg
    subst hP hw hK
    obtain ⟨hz, hTI, ⟨x0, y0, v0, hTO⟩, h1, h2, h3⟩ := st
    obtain ⟨xs, ys, zs, hqx, hqy, hqz, lx, ly, lz⟩ := hg
    obtain ⟨its, rv, p, _⟩ := I.tuple hqx
    obtain ⟨its2, rv2, p2, _⟩ := I.tuple hqy
    obtain ⟨its3, rv3, p3, _⟩ := I.tuple hqz
    have l1 := rv.length
    have l2 := rv2.length
    have l3 := rv3.length
    have s1 : its.toArray.size = i := by simp; omega
    have s2 : its2.toArray.size = i := by simp; omega
    have s3 : its3.toArray.size = i := by simp; omega
    have hh : X.A.in1.in1.handled = none := I.ok.hd hc
    exact wpAny_pyNext_zipD3_end (A := X.A) D (Draws.tuple (A := X.A.in1) hh i1 a na its.toArray) (Draws.tuple (A := X.A.in1) hh i2 b nb its2.toArray) (Draws.tuple (A := X.A.in1) hh i3 c nc its3.toArray) hz hTI hTO ⟨h1, p⟩ ⟨h2, p2⟩ ⟨h3, p3⟩ (by omega) (by omega) (by omega) (.inl s1.symm)
      fun h' tk hk => ⟨rfl, I.turnedL (t' := tk) (ch := [z, TI, TO, i1, i2, i3]) (fun c o hb q =>
      hk c o (fun q' => hb (by simp [q'])) (fun q' => hb (by simp [q'])) (fun q' => hb (by simp [q'])) (fun q' => hb (by simp [q'])) (fun q' => hb (by simp [q'])) q) hf⟩
  self := fun A i s Q E st h => wpAny_pyIter_zip st.1 h
def iZip3 (K : PySem.W.Frag) (ta : TA) : TI := fun σ H R => ta σ H fun vs H1 => ∃ a b c xs ys zs, vs = [.ref a, .ref b, .ref c] ∧ SqT K H1 a xs ∧ SqT K H1 b ys ∧ SqT K H1 c zs ∧ R (ItzT3 K a b c) H1
theorem pi_zip3 {X : Cx} {e e2 e3 : Expr} {ta : TA} {p pos tpos : Pos} {elts : List Expr} {kk : Nat} (hg : Gl X "zip") (hm : X.mg "zip" = none) (ha : PA X [e, e2, e3] ta)
    (hs : starEach [e, e2, e3] X.env = (false, eval e X.env) :: starEach [e2, e3] X.env := by rfl) (hpl : (backTo pos (starEach [e2, e3] X.env)).any (·.1) = false := by rfl) :
    PI X (.Tuple elts kk tpos) (.Call (.Name "zip" p) [e, e2, e3] [] pos) (iZip3 X.K ta) := by
  refine ⟨fun pins s σ H R I h => ?_⟩
  refine Call_ (ld_blt I hg hm PyProof.Rows.boot_zip (PyProof.Rows.callWith_type1 (thn (ha.run pos pins s σ H _ I h) fun us s1 ⟨vs, H1, I1, r1, q1⟩ => ?_) hs hpl))
  obtain ⟨a, b, c, xs, ys, zs, ex, hqx, hqy, hqz, q⟩ := q1
  subst ex
  cases r1 with
  | cons r rr =>
    cases rr with
    | cons r' rr =>
      cases rr with
      | cons r'' rr =>
        cases rr
        cases r
        cases r'
        cases r''
        have fresh6 : ∀ c, c ∈ [s1.heap.objs.size + 5, s1.heap.objs.size + 3, s1.heap.objs.size + 4, s1.heap.objs.size, s1.heap.objs.size + 1, s1.heap.objs.size + 2] → FpOk X pins H1 c := fun c hcm => by
          have e' : c = s1.heap.objs.size + 5 ∨ c = s1.heap.objs.size + 3 ∨ c = s1.heap.objs.size + 4 ∨ c = s1.heap.objs.size ∨ c = s1.heap.objs.size + 1 ∨ c = s1.heap.objs.size + 2 := by simpa using hcm
          have hle : s1.heap.objs.size ≤ c := by
            rcases e' with z | z | z | z | z | z <;> rw [z] <;> first | exact Nat.le_refl _ | exact Nat.le_add_right _ _
          exact I1.fpOk hle (I1.hok.fresh hle)
        obtain ⟨its, rv, p1, _⟩ := I1.tuple hqx
        obtain ⟨its2, rv2, p2, _⟩ := I1.tuple hqy
        obtain ⟨its3, rv3, p3, _⟩ := I1.tuple hqz
        have la : @LT.lt Nat _ a s1.heap.objs.size := by obtain ⟨_, e, _⟩ := id p1; exact Heap.lt_size e
        have lb : @LT.lt Nat _ b s1.heap.objs.size := by obtain ⟨_, e, _⟩ := id p2; exact Heap.lt_size e
        have lc : @LT.lt Nat _ c s1.heap.objs.size := by obtain ⟨_, e, _⟩ := id p3; exact Heap.lt_size e
        refine zip_begins3 (begins_tuple a its.toArray) (begins_tuple b its2.toArray) (begins_tuple c its3.toArray) p1 p2 p3 fun h' hz hTI hTO h1 h2 h3 hsz hk => wpAny_pyIter_zip hz ?_
        have I2 : Inv X pins σ H1 { s1 with heap := h' } := I1.kept (t' := s1.toks) hk
        have ap : ZipSep3 (s1.heap.objs.size + 5) (s1.heap.objs.size + 3) (s1.heap.objs.size + 4) s1.heap.objs.size (s1.heap.objs.size + 1) (s1.heap.objs.size + 2) [s1.heap.objs.size, a] [s1.heap.objs.size + 1, b] [s1.heap.objs.size + 2, c] := by
          refine ⟨?_, ?_, ?_, ?_, ?_, ?_, ?_, ?_, ?_, ?_, ?_, ?_, ?_, ?_, ?_, ?_, ?_, ?_, ?_, ?_, ?_⟩
          all_goals first
            | exact List.mem_cons_self ..
            | (intro h; have h2 : @Eq Nat _ _ := h; omega)
            | (intro h; rcases List.mem_cons.mp h with h | h
               · have h2 : @Eq Nat _ _ := h; omega
               · have h2 : @Eq Nat _ _ := List.mem_singleton.mp h; omega)
        exact ⟨s1.heap.objs.size + 5, [s1.heap.objs.size + 5, s1.heap.objs.size + 3, s1.heap.objs.size + 4, s1.heap.objs.size, s1.heap.objs.size + 1, s1.heap.objs.size + 2], _, _, H1, rfl, I2, turn_zip3 ap (fun e => by have h2 : @Eq Nat _ _ := e; omega) (fun e => by have h2 : @Eq Nat _ _ := e; omega) (fun e => by have h2 : @Eq Nat _ _ := e; omega), ⟨hz, hTI, ⟨_, _, _, hTO⟩, ⟨_, h1, rfl, rfl⟩, ⟨_, h2, rfl, rfl⟩, ⟨_, h3, rfl, rfl⟩⟩, fresh6, q⟩
theorem for_zip3 {K : PySem.W.Frag} {a b c : Addr} {xs ys zs : List V} {g : TG} {tb : TS} {D : Ends} {σ : L2.St} {H : Hp} (hl : xs.length = ys.length) (hl2 : ys.length = zs.length) (Pv : Nat → L2.St → Hp → Prop) (h0 : Pv 0 σ H) (hq : ∀ i σ H, Pv i σ H → SqT K H a xs ∧ SqT K H b ys ∧ SqT K H c zs)
    (hs : ∀ (i : Nat) (x y z : V) (T : Addr) (σ : L2.St) (H : Hp), xs[i]? = some x → ys[i]? = some y → zs[i]? = some z → Pv i σ H → H T = none → g (.ref T) σ (upd H T (.tup [x, y, z])) fun σ2 H2 => tb { D with nx := Pv (i + 1), ct := Pv (i + 1), bk := D.nx } σ2 H2) (hd : ∀ σ H, Pv xs.length σ H → D.nx σ H) :
    ∃ W : Nat → Nat → L2.St → Hp → Prop, (∃ m, W 0 m σ H) ∧ ∀ i m σ H, W i m σ H →
      ((ItzT3 K a b c).stop i H ∧ D.nx σ H) ∨ ((ItzT3 K a b c).go i H ∧ ∃ N : L2.St → Hp → Prop, (∀ σ' H', N σ' H' → ∃ m', m' < m ∧ W (i + 1) m' σ' H') ∧ ∀ v H', (ItzT3 K a b c).yld i H v H' → g v σ H' fun σ2 H2 => tb { D with nx := N, ct := N, bk := D.nx } σ2 H2) := by
  refine ⟨fun i m σ H => m = xs.length - i ∧ i ≤ xs.length ∧ Pv i σ H, ⟨xs.length, rfl, Nat.zero_le _, h0⟩, ?_⟩
  rintro i m σ H ⟨rfl, hi, p⟩
  obtain ⟨qx, qy, qz⟩ := hq i σ H p
  by_cases hlt : i < xs.length
  · have hx : xs[i]? = some xs[i] := List.getElem?_eq_getElem hlt
    have hlt2 : i < ys.length := by omega
    have hy : ys[i]? = some ys[i] := List.getElem?_eq_getElem hlt2
    have hlt3 : i < zs.length := by omega
    have hz : zs[i]? = some zs[i] := List.getElem?_eq_getElem hlt3
    refine .inr ⟨⟨xs, ys, zs, _, _, _, qx, qy, qz, hl, hl2, hx, hy, hz⟩, Pv (i + 1), fun σ' H' p' => ⟨xs.length - (i + 1), by omega, rfl, hlt, p'⟩, fun v H' y => ?_⟩
    obtain ⟨T, x', y', z', rfl, hT, rfl, f1, f2, f3⟩ := y
    exact hs i x' y' z' T σ H (f1 xs qx) (f2 ys qy) (f3 zs qz) p hT
  · have e : i = xs.length := by omega
    subst e
    exact .inl ⟨⟨xs, ys, zs, qx, qy, qz, rfl, hl.symm, by omega⟩, hd σ H p⟩
/-! ### len(set(t)), t a tuple of unlike integers -/
def tLenSetT (K : PySem.W.Frag) (ta : TE) : TE := fun σ H Q => ta σ H fun x H1 => ∃ (l : Addr) (ns : List Int), x = .ref l ∧ SqT K H1 l (ns.map V.int) ∧ ns.Nodup ∧ ns.length ≤ 1000 ∧ Q (.int (ns.length : Nat)) H1
theorem pe_lenSetT {X : Cx} {a : Expr} {ta : TE} {p p2 q pos : Pos} (hg : Gl X "len") (hm : X.mg "len" = none) (hg2 : Gl X "set") (hm2 : X.mg "set" = none) (ha : PE X a ta) (hc : X.calm = true := by rfl)
    (na : starEach [a] X.env = (false, eval a X.env) :: starEach [] X.env := by rfl) : PE X (.Call (.Name "len" p) [.Call (.Name "set" p2) [a] [] q] [] pos) (tLenSetT X.K ta) := by
  refine ⟨fun pins s σ H Q I h => ?_⟩
  refine Call_ (ld_blt I hg hm boot_len ?_)
  refine PyProof.Rows.callWith_builtin1 (PyProof.Rows.args_cons ?_ rfl) rfl rfl
  refine Call_ (ld_blt I hg2 hm2 boot_set ?_)
  refine PyProof.Rows.callWith_type1 (PyProof.Rows.args_cons (thn (ha.run pins s σ H _ I h) fun v s1 ⟨x, H1, I1, r1, q1⟩ => PyProof.Rows.args_nil ?_) na) na rfl
  obtain ⟨l, ns, rfl, hq, hnd, hl, q1⟩ := q1
  cases r1
  obtain ⟨its, r, pl, hz⟩ := I1.tuple hq
  refine call_set_tupI ns (I1.ok.hd hc) pl (by simpa using intsAre_vals r) (by unfold scanBound; omega) fun h' tk c hS hc' hk => ?_
  refine PyProof.Rows.args_nil ?_
  obtain ⟨o, es, ep, t, ho, hex, hd, _, nd, iff, lt, hf, hn, _⟩ := hS
  have hlen : es.size = ns.length := by
    have pm : (es.toList.map keyOf).Perm ns := (List.perm_ext_iff_of_nodup nd hnd).mpr fun k => ⟨fun h => of_decide_eq_true ((iff k).mpr h), fun h => (iff k).mp (decide_eq_true h)⟩
    have := pm.length_eq
    rw [List.length_map, Array.length_toList] at this
    exact this
  have I2 : Inv X pins σ H1 { s1 with heap := h', toks := tk } := I1.kept hk
  exact call_len_set ho hex hd hf (by rw [hlen] <;> omega) ⟨.int ns.length, H1, I2.tok _, ⟨_, by rw [hlen]⟩, q1⟩
end Z3

/-! tuple(zip(xs, ys)) of two lists of one length: a new tuple of new pairs. -/
namespace Z3
open PySem PySem.Spec PyProof.Rows L2 RZ
theorem zip_no_len : typeLookup (.type "zip") "__len__" = pure none := by rw [typeLookup_type, builtinLookup_eq_fast]; kernel_rfl
theorem zip_no_hint : typeLookup (.type "zip") "__length_hint__" = pure none := by rw [typeLookup_type, builtinLookup_eq_fast]; kernel_rfl
structure ZSt (a b z TI TO i1 i2 : Addr) (i : Nat) (h : Heap) : Prop where
  h1 : h.IsListIter i1 a i
  h2 : h.IsListIter i2 b i
  hTI : IsPair h TI (.ref i1) (.ref i2)
  hTO : ∃ o, h.get? TO = some o
  st : (IsZip h z TI TO .none ∧ ∃ x y, IsPair h TO x y) ∨ ∃ T f oT, IsZipHeld h z TI TO T f ∧ h.get? T = some oT ∧ T ∉ [z, TO, i1, i2]
def lstO (Ts : List Addr) (c : Nat) : Obj := { cls := .type "list", dict := none, data := .seq (Ts.map Value.ref).toArray c, slots := #[] }
theorem Same.at_new {H : Hp} {p : Addr} {o : HO} (h : H p = none) : L2.Same H (upd H p o) := fun b x e => by
  rw [upd_ne (ne_of_none e h)]; exact e
section
variable {X : Cx} {pins : List (Addr × Obj)} {σ : L2.St} {a b z TI TO i1 i2 S : Addr} {xs ys : List V}
theorem zip_step {A : Around} {E : Value → Shared → Prop} (D : ZipApart z TI TO i1 i2 a b) (nS : S ∉ [z, TI, TO, i1, i2]) {i : Nat} {s : Shared} {H : Hp} {oS : Obj} (I : Inv X pins σ H s) (hf : ∀ b ∈ [z, TI, TO, i1, i2], FpOk X pins H b)
    (hqx : SqL X.K H a xs) (hqy : SqL X.K H b ys) (Z : ZSt a b z TI TO i1 i2 i s.heap) (hS : s.heap.get? S = some oS) {x y : V} (hx : xs[i]? = some x) (hy : ys[i]? = some y) :
    wpAny (model X.prog X.w) A (pyNext (.ref z)) (fun r s1 => r = some (.ref s.heap.objs.size) ∧ Inv X pins σ (upd H s.heap.objs.size (.tup [x, y])) s1 ∧ ZSt a b z TI TO i1 i2 (i + 1) s1.heap ∧ s1.heap.get? S = some oS ∧ s.heap.objs.size < s1.heap.objs.size ∧ s.heap.objs.size ∉ [z, TI, TO, i1, i2, S]) E s := by
  obtain ⟨its, rv, p, _⟩ := I.list hqx
  obtain ⟨its2, rv2, p2, _⟩ := I.list hqy
  obtain ⟨u, hu, ru⟩ := rv.get hx
  obtain ⟨u2, hu2, ru2⟩ := rv2.get hy
  obtain ⟨h1, h2, hTI, ⟨oO, gO⟩, st⟩ := Z
  have ltO : TO < s.heap.objs.size := Heap.lt_size gO
  have Szz : S ≠ z := fun e => nS (by simp [e])
  have Sto : S ≠ TO := fun e => nS (by simp [e])
  have S1 : S ≠ i1 := fun e => nS (by simp [e])
  have S2 : S ≠ i2 := fun e => nS (by simp [e])
  have lt1 : i1 < s.heap.objs.size := by obtain ⟨_, e, _⟩ := h1; exact Heap.lt_size e
  have lt2 : i2 < s.heap.objs.size := by obtain ⟨_, e, _⟩ := h2; exact Heap.lt_size e
  have ltT : TI < s.heap.objs.size := Heap.lt_size hTI
  have ltS : S < s.heap.objs.size := Heap.lt_size hS
  rcases st with ⟨hz, x0, y0, hTO⟩ | ⟨T, f, oT, hz, hT, nT⟩
  · have ltz : z < s.heap.objs.size := Heap.lt_size hz
    refine wpAny_pyNext_zip_item D hz hTI hTO h1 h2 p.isList p2.isList (x := u) (y := u2) (by simpa using hu) (by simpa using hu2) fun h' z' TO' h1' h2' hT hsz hk => ?_
    have new : ObjOk X.prog X.w (upd H s.heap.objs.size (.tup [x, y])) h' s.heap.objs.size (.tup [x, y]) :=
      ⟨by show 2 ≤ sizeLine; decide, [u, u2], .cons ru (.cons ru2 .nil), ⟨_, hT, rfl, _, rfl⟩⟩
    have I1 : Inv X pins σ (upd H s.heap.objs.size (.tup [x, y])) { s with heap := h' } :=
      I.turnedNew (t' := s.toks) (ch := [z, TI, TO, i1, i2]) (fun c o hb q => hk c o (fun q' => hb (by simp [q'])) (fun q' => hb (by simp [q'])) (fun q' => hb (by simp [q'])) (fun q' => hb (by simp [q'])) q) hf (Nat.le_refl _) new
    refine ⟨rfl, I1, ⟨h1', h2', hk _ _ D.TIz D.TITO D.TIi1 D.TIi2 hTI, ⟨_, TO'⟩, .inr ⟨s.heap.objs.size, false, _, z', hT, ?_⟩⟩, hk _ _ Szz Sto S1 S2 hS, ?_, ?_⟩
    · simp only [List.mem_cons, List.not_mem_nil, or_false, not_or]
      exact ⟨Nat.ne_of_gt ltz, Nat.ne_of_gt ltO, Nat.ne_of_gt lt1, Nat.ne_of_gt lt2⟩
    · show s.heap.objs.size < h'.objs.size
      rw [hsz]; exact Nat.lt_succ_self _
    · simp only [List.mem_cons, List.not_mem_nil, or_false, not_or]
      exact ⟨Nat.ne_of_gt ltz, Nat.ne_of_gt ltT, Nat.ne_of_gt ltO, Nat.ne_of_gt lt1, Nat.ne_of_gt lt2, Nat.ne_of_gt ltS⟩
  · have ltz : z < s.heap.objs.size := Heap.lt_size hz
    have nTz : T ≠ z := fun e => nT (by simp [e])
    have nT1 : T ≠ i1 := fun e => nT (by simp [e])
    have nT2 : T ≠ i2 := fun e => nT (by simp [e])
    refine wpAny_pyNext_zip_item_held D hz hT hTI h1 h2 p.isList p2.isList (x := u) (y := u2) (by simpa using hu) (by simpa using hu2) fun h' z' h1' h2' hT' hsz hk => ?_
    have new : ObjOk X.prog X.w (upd H s.heap.objs.size (.tup [x, y])) h' s.heap.objs.size (.tup [x, y]) :=
      ⟨by show 2 ≤ sizeLine; decide, [u, u2], .cons ru (.cons ru2 .nil), ⟨_, hT', rfl, _, rfl⟩⟩
    have I1 : Inv X pins σ (upd H s.heap.objs.size (.tup [x, y])) { s with heap := h' } :=
      I.turnedNew (t' := s.toks) (ch := [z, TI, TO, i1, i2]) (fun c o hb q => hk c o (fun q' => hb (by simp [q'])) (fun q' => hb (by simp [q'])) (fun q' => hb (by simp [q'])) q) hf (Nat.le_refl _) new
    refine ⟨rfl, I1, ⟨h1', h2', hk _ _ D.TIz D.TIi1 D.TIi2 hTI, ⟨_, hk _ _ D.TOz D.TOi1 D.TOi2 gO⟩, .inr ⟨T, true, oT, z', hk _ _ nTz nT1 nT2 hT, nT⟩⟩, hk _ _ Szz S1 S2 hS, ?_, ?_⟩
    · show s.heap.objs.size < h'.objs.size
      rw [hsz]; exact Nat.lt_succ_self _
    · simp only [List.mem_cons, List.not_mem_nil, or_false, not_or]
      exact ⟨Nat.ne_of_gt ltz, Nat.ne_of_gt ltT, Nat.ne_of_gt ltO, Nat.ne_of_gt lt1, Nat.ne_of_gt lt2, Nat.ne_of_gt ltS⟩
/-- the pairs at Ts -/
def Prs (H : Hp) (xs ys : List V) (Ts : List Addr) : Prop := ∀ (j : Nat) (T : Addr) (x y : V), Ts[j]? = some T → xs[j]? = some x → ys[j]? = some y → H T = some (.tup [x, y])
theorem zip_loop {A : Around} {R : Result → Shared → Prop} (hh : A.handled = none) (D : ZipApart z TI TO i1 i2 a b) (nS : S ∉ [z, TI, TO, i1, i2]) (hl : xs.length = ys.length) (hn : xs.length ≤ sizeLine) :
    ∀ (k i : Nat) (s : Shared) (H : Hp) (Ts : List Addr) (c : Nat), xs.length - i = k → i ≤ xs.length → Inv X pins σ H s → (∀ b ∈ [z, TI, TO, i1, i2, S], FpOk X pins H b) → SqL X.K H a xs → SqL X.K H b ys → ZSt a b z TI TO i1 i2 i s.heap →
    Ts.length = i → Prs H xs ys Ts → s.heap.get? S = some (lstO Ts c) →
    (∀ s' H' Ts' c', Inv X pins σ H' s' → Ts'.length = xs.length → L2.Same H H' → Prs H' xs ys Ts' → s'.heap.get? S = some (lstO Ts' c') → R (.ok (.ret (.ref S))) s') →
    codeAny (model X.prog X.w) A (.builtin "list.extend.loop" ⟨[.ref S, .ref z, .ref S], []⟩) R s := by
  intro k
  induction k with
  | zero =>
    intro i s H Ts c hk hi I hf hqx hqy Z lT hP hS hR
    have hin : i = xs.length := by omega
    subst hin
    refine codeAny_builtin F.entry_extend_loop ?_
    rw [Around.under_plainId F.plain_extend_loop _]
    show wpAny _ A.in1 (pyNext (.ref z) >>= _) _ _ s
    have hf5 : ∀ b ∈ [z, TI, TO, i1, i2], FpOk X pins H b := fun b hb => hf b (by simp only [List.mem_cons, List.not_mem_nil, or_false] at hb ⊢; rcases hb with h | h | h | h | h <;> simp [h])
    have Szz : S ≠ z := fun e => nS (by simp [e])
    have Sto : S ≠ TO := fun e => nS (by simp [e])
    have S1 : S ≠ i1 := fun e => nS (by simp [e])
    have S2 : S ≠ i2 := fun e => nS (by simp [e])
    obtain ⟨its, rv, p, _⟩ := I.list hqx
    obtain ⟨its2, rv2, p2, _⟩ := I.list hqy
    have l1 := rv.length
    obtain ⟨h1, h2, hTI, ⟨oO, gO⟩, st⟩ := Z
    rcases st with ⟨hz, x0, y0, hTO⟩ | ⟨T, f, oT, hz, hT, nT⟩
    · refine wpAny_bind (wpAny_pyNext_zip_end hh D hz hTI hTO h1 h2 p.isList p2.isList (.inl (by simp; omega)) fun h' hk => ?_)
      refine wpAny_pure (hR _ H Ts c (I.turnedL (t' := s.toks) (ch := [z, TI, TO, i1, i2]) (fun c o hb q => hk c o (fun q' => hb (by simp [q'])) (fun q' => hb (by simp [q'])) (fun q' => hb (by simp [q'])) (fun q' => hb (by simp [q'])) q) hf5) lT (fun _ _ e => e) hP (hk _ _ Szz Sto S1 S2 hS))
    · refine wpAny_bind (wpAny_pyNext_zip_end_held hh D hz hT hTI h1 h2 p.isList p2.isList (.inl (by simp; omega)) fun h' hk => ?_)
      refine wpAny_pure (hR _ H Ts c (I.turnedL (t' := s.toks) (ch := [z, TI, TO, i1, i2]) (fun c o hb q => hk c o (fun q' => hb (by simp [q'])) (fun q' => hb (by simp [q'])) (fun q' => hb (by simp [q'])) q) hf5) lT (fun _ _ e => e) hP (hk _ _ Szz S1 S2 hS))
  | succ k ih =>
    intro i s H Ts c hk hi I hf hqx hqy Z lT hP hS hR
    have hlt : i < xs.length := by omega
    refine codeAny_builtin F.entry_extend_loop ?_
    rw [Around.under_plainId F.plain_extend_loop _]
    show wpAny _ A.in1 (pyNext (.ref z) >>= _) _ _ s
    have hf5 : ∀ b ∈ [z, TI, TO, i1, i2], FpOk X pins H b := fun b hb => hf b (by simp only [List.mem_cons, List.not_mem_nil, or_false] at hb ⊢; rcases hb with h | h | h | h | h <;> simp [h])
    have hx : xs[i]? = some xs[i] := List.getElem?_eq_getElem hlt
    have hy : ys[i]? = some (ys[i]'(by omega)) := List.getElem?_eq_getElem (by omega)
    refine wpAny_bind (thn (zip_step (S := S) D nS I hf5 hqx hqy Z hS hx hy) fun r s1 ⟨er, I1, Z1, hS1, lt, nin⟩ => ?_)
    subst er
    have nT : H s.heap.objs.size = none := I.hok.fresh (Nat.le_refl _)
    have sm : L2.Same H (upd H s.heap.objs.size (.tup [xs[i], ys[i]'(by omega)])) := Same.at_new nT
    have hf1 : ∀ b ∈ [z, TI, TO, i1, i2, S], FpOk X pins (upd H s.heap.objs.size (.tup [xs[i], ys[i]'(by omega)])) b := fun b hb => by
      obtain ⟨g0, g⟩ := hf b hb
      exact ⟨by rw [upd_ne (fun e => nin (by rw [← e]; exact hb))]; exact g0, g⟩
    show wpAny _ A.in1 (updateSeq S (·.push (.ref s.heap.objs.size)) >>= _) _ _ _
    refine wpAny_bind ?_
    have e2 : (Ts.map Value.ref).toArray.push (.ref s.heap.objs.size) = ((Ts ++ [s.heap.objs.size]).map Value.ref).toArray := by simp
    refine wpAny_updateSeq hS1 rfl (wpAny_pure ⟨plainId_quiet F.plain_extend_loop _, ?_⟩) (by simp; omega) (by simp; omega)
    have hS2 := Heap.get?_update_self (Obj.mapSeq (·.push (Value.ref s.heap.objs.size))) hS1 rfl
    have I2 : Inv X pins σ (upd H s.heap.objs.size (.tup [xs[i], ys[i]'(by omega)])) { s1 with heap := s1.heap.update S (Obj.mapSeq (·.push (Value.ref s.heap.objs.size))) } :=
      I1.turnedL (t' := s1.toks) (ch := [S]) (fun c o hb q => (Heap.get?_update_other _ _ (fun e : S = c => hb (by simp [e]))).trans q) (fun b hb => hf1 b (by simp only [List.mem_singleton] at hb; simp [hb]))
    have oth : ∀ c o, c ≠ S → s1.heap.get? c = some o → (s1.heap.update S (Obj.mapSeq (·.push (Value.ref s.heap.objs.size)))).get? c = some o := fun c o hc q => (Heap.get?_update_other _ _ hc.symm).trans q
    have Z2 : ZSt a b z TI TO i1 i2 (i + 1) (s1.heap.update S (Obj.mapSeq (·.push (Value.ref s.heap.objs.size)))) := by
      obtain ⟨h1, h2, hTI, ⟨oO, gO⟩, st⟩ := Z1
      refine ⟨h1.at fun o q => oth _ o (fun e => nS (by simp [← e])) q, h2.at fun o q => oth _ o (fun e => nS (by simp [← e])) q, oth _ _ (fun e => nS (by simp [← e])) hTI, ⟨oO, oth _ _ (fun e => nS (by simp [← e])) gO⟩, ?_⟩
      rcases st with ⟨hz, x0, y0, hTO⟩ | ⟨T, f, oT, hz, hT, nT⟩
      · exact .inl ⟨oth _ _ (fun e => nS (by simp [← e])) hz, x0, y0, oth _ _ (fun e => nS (by simp [← e])) hTO⟩
      · by_cases hTS : T = S
        · subst hTS
          exact .inr ⟨T, f, _, oth _ _ (fun e => nS (by simp [← e])) hz, hS2, nT⟩
        · exact .inr ⟨T, f, oT, oth _ _ (fun e => nS (by simp [← e])) hz, oth _ _ hTS hT, nT⟩
    have hqx1 : SqL X.K (upd H s.heap.objs.size (.tup [xs[i], ys[i]'(by omega)])) a xs := sm.seq hqx
    have hqy1 : SqL X.K (upd H s.heap.objs.size (.tup [xs[i], ys[i]'(by omega)])) b ys := sm.seq hqy
    refine ih (i + 1) _ _ (Ts ++ [s.heap.objs.size]) (c + 1) (by omega) hlt I2 hf1 hqx1 hqy1 Z2 (by rw [List.length_append, lT]; rfl) (fun j T x y hT hx' hy' => ?_) ?_ (fun s' H' Ts' c' I' l' sm' P' S' => hR s' H' Ts' c' I' l' (fun p o e => sm' p o (sm p o e)) P' S')
    · by_cases hj : j < Ts.length
      · rw [List.getElem?_append_left hj] at hT
        exact sm _ _ (hP j T x y hT hx' hy')
      · rw [List.getElem?_append_right (by omega)] at hT
        have hj' : j - Ts.length < [s.heap.objs.size].length := (List.getElem?_eq_some_iff.mp hT).1
        have ej : j = i := by simp at hj'; omega
        subst ej
        rw [lT, Nat.sub_self] at hT
        cases hT
        rw [hx] at hx'
        rw [hy] at hy'
        cases hx'
        cases hy'
        exact upd_same
    · rw [hS2]
      simp [lstO, Obj.mapSeq]
theorem collect_zip {A : Around} {E : Value → Shared → Prop} {Q : List Value → Shared → Prop} {s : Shared} {H : Hp} (hh : A.handled = none) (D : ZipApart z TI TO i1 i2 a b) (hl : xs.length = ys.length) (hn : xs.length ≤ sizeLine)
    (I : Inv X pins σ H s) (hf : ∀ b ∈ [z, TI, TO, i1, i2], FpOk X pins H b) (hqx : SqL X.K H a xs) (hqy : SqL X.K H b ys) (Z : ZSt a b z TI TO i1 i2 0 s.heap) (hz : IsZip s.heap z TI TO .none)
    (hQ : ∀ s' H' Ts', Inv X pins σ H' s' → Ts'.length = xs.length → L2.Same H H' → Prs H' xs ys Ts' → Q (Ts'.map Value.ref) s') :
    wpAny (model X.prog X.w) A (collect (.ref z)) Q E s := by
  have lt1 : i1 < s.heap.objs.size := by obtain ⟨_, e, _⟩ := Z.h1; exact Heap.lt_size e
  have lt2 : i2 < s.heap.objs.size := by obtain ⟨_, e, _⟩ := Z.h2; exact Heap.lt_size e
  have ltT : TI < s.heap.objs.size := Heap.lt_size Z.hTI
  have ltO : TO < s.heap.objs.size := by obtain ⟨_, e⟩ := Z.hTO; exact Heap.lt_size e
  have ltz : z < s.heap.objs.size := Heap.lt_size hz
  have nS : s.heap.objs.size ∉ [z, TI, TO, i1, i2] := by
    simp only [List.mem_cons, List.not_mem_nil, or_false, not_or]
    exact ⟨Nat.ne_of_gt ltz, Nat.ne_of_gt ltT, Nat.ne_of_gt ltO, Nat.ne_of_gt lt1, Nat.ne_of_gt lt2⟩
  have hSI : s.heap.objs.size ≠ z := Nat.ne_of_gt ltz
  unfold collect
  refine wpAny_bind (wpAny_runValue (codeAny_builtin F.entry_proto_collect ?_))
  rw [Around.under_plainId F.plain_proto_collect _]
  show wpAny _ A.in1 (newList [] >>= fun l => again (.builtin "list.__iadd__" ⟨[l, .ref z], []⟩)) _ _ s
  refine wpAny_bind (wpAny_newObj_type ?_)
  refine wpAny_pure ⟨plainId_quiet F.plain_list_iadd _, codeAny_builtin F.entry_list_iadd ?_⟩
  rw [Around.under_plainId F.plain_list_iadd _]
  show wpAny _ A.in1 (Builtin.List.listExtendWith (.ref s.heap.objs.size) (.ref z) (.ref s.heap.objs.size)) _ _ _
  have up : ∀ c o, s.heap.get? c = some o → (s.heap.push { cls := .type "list", data := .seq ([] : List Value).toArray }).get? c = some o := fun c o e => Heap.get?_push_of_some _ e
  have hz₁ := up _ _ hz
  have hT : Shared.TypeIs { s with heap := s.heap.push { cls := .type "list", data := .seq ([] : List Value).toArray } } (.ref z) "zip" := ⟨_, hz₁, rfl⟩
  unfold Builtin.List.listExtendWith
  refine wpAny_bind (wpAny_typeOf hT ?_)
  have h1 : Builtin.List.listSameRef (.ref s.heap.objs.size) (.ref z) = false := by simp [Builtin.List.listSameRef, hSI]
  have h2 : (Value.type "zip" == Value.type "list") = false := by decide
  have h3 : (Value.type "zip" == Value.type "tuple") = false := by decide
  simp only [h1, h2, h3, Bool.or_false, Bool.false_eq_true, if_false]
  refine wpAny_bind (wpAny_pyIter_zip hz₁ ?_)
  refine wpAny_bind (wpAny_holding ?_)
  unfold Builtin.List.listLengthHint
  refine wpAny_bind (wpAny_specialOf hT zip_no_len ?_)
  show wpAny _ A.in1 (specialOf (Value.ref z) (Str.ofString "__length_hint__") >>= _) _ _ _
  refine wpAny_bind (wpAny_specialOf hT zip_no_hint ?_)
  refine wpAny_pure ?_
  show wpAny _ A.in1 (rule "list.extend.makes-room" >>= fun _ => Builtin.List.listTouch (.ref s.heap.objs.size) >>= fun _ =>
    again (.builtin "list.extend.loop" ⟨[.ref s.heap.objs.size, .ref z, .ref s.heap.objs.size], []⟩)) _ _ _
  refine wpAny_bind (wpAny_rule ?_)
  have hS₁ : (s.heap.push { cls := .type "list", data := .seq ([] : List Value).toArray }).get? s.heap.objs.size = some { cls := .type "list", data := .seq ([] : List Value).toArray } := Heap.get?_push_size _ rfl
  refine wpAny_bind ?_
  show wpAny _ A.in1 (updateSeq s.heap.objs.size (·.push .none) >>= fun _ => updateSeq s.heap.objs.size (·.pop)) _ _ _
  refine wpAny_bind (wpAny_updateSeq hS₁ rfl ?_)
  have hS₂ := Heap.get?_update_self (Obj.mapSeq (·.push Value.none)) hS₁ rfl
  refine wpAny_updateSeq hS₂ rfl ?_
  have hS₃ := Heap.get?_update_self (Obj.mapSeq (·.pop)) hS₂ rfl
  have oth : ∀ b o, b ≠ s.heap.objs.size → (s.heap.push { cls := .type "list", data := .seq ([] : List Value).toArray }).get? b = some o →
      (((s.heap.push { cls := .type "list", data := .seq ([] : List Value).toArray }).update s.heap.objs.size (Obj.mapSeq (·.push Value.none))).update s.heap.objs.size (Obj.mapSeq (·.pop))).get? b = some o :=
    fun b o hb e => (Heap.get?_update_other _ _ (Ne.symm hb)).trans ((Heap.get?_update_other _ _ (Ne.symm hb)).trans e)
  have keep : ∀ b o, s.heap.get? b = some o → (((s.heap.push { cls := .type "list", data := .seq ([] : List Value).toArray }).update s.heap.objs.size (Obj.mapSeq (·.push Value.none))).update s.heap.objs.size (Obj.mapSeq (·.pop))).get? b = some o :=
    fun b o e => oth b o (Nat.ne_of_lt (Heap.lt_size e)) (up _ _ e)
  have I1 : Inv X pins σ H { s with heap := (((s.heap.push { cls := .type "list", data := .seq ([] : List Value).toArray }).update s.heap.objs.size (Obj.mapSeq (·.push Value.none))).update s.heap.objs.size (Obj.mapSeq (·.pop))) } := I.kept (t' := s.toks) keep
  have hf6 : ∀ b ∈ [z, TI, TO, i1, i2, s.heap.objs.size], FpOk X pins H b := fun b hb => by
    by_cases e : b = s.heap.objs.size
    · subst e
      exact I.fpOk (Nat.le_refl _) (I.hok.fresh (Nat.le_refl _))
    · refine hf b ?_
      simp only [List.mem_cons, List.not_mem_nil, or_false] at hb ⊢
      rcases hb with h | h | h | h | h | h
      · simp [h]
      · simp [h]
      · simp [h]
      · simp [h]
      · simp [h]
      · exact absurd h e
  have Z1 : ZSt a b z TI TO i1 i2 0 (((s.heap.push { cls := .type "list", data := .seq ([] : List Value).toArray }).update s.heap.objs.size (Obj.mapSeq (·.push Value.none))).update s.heap.objs.size (Obj.mapSeq (·.pop))) := by
    obtain ⟨h1, h2, hTI, ⟨oO, gO⟩, st⟩ := Z
    refine ⟨h1.at fun o q => keep _ o q, h2.at fun o q => keep _ o q, keep _ _ hTI, ⟨oO, keep _ _ gO⟩, ?_⟩
    rcases st with ⟨hz, x0, y0, hTO⟩ | ⟨T, f, oT, hz, hT, nT⟩
    · exact .inl ⟨keep _ _ hz, x0, y0, keep _ _ hTO⟩
    · exact .inr ⟨T, f, oT, keep _ _ hz, keep _ _ hT, nT⟩
  refine wpAny_pure ⟨plainId_quiet F.plain_extend_loop _, zip_loop (X := X) (pins := pins) (σ := σ) hh D nS hl hn _ 0 _ H [] _ rfl (Nat.zero_le _) I1 hf6 hqx hqy Z1 rfl (fun j T x y h => by simp at h) hS₃ fun s' H' Ts' c' I' l' sm P' hS' => ?_⟩
  show wpAny _ A (load s.heap.objs.size >>= _) _ _ s'
  refine wpAny_bind (wpAny_load hS' ?_)
  refine wpAny_pure ?_
  show Q ((Ts'.map Value.ref).toArray.toList) s'
  rw [List.toList_toArray]
  exact hQ s' H' Ts' I' l' sm P'
theorem code_tuple_new_zip {A : Around} {E : Value → Shared → Prop} {Q₁ : Value → Shared → Prop} {s : Shared} {H : Hp} (hh : A.handled = none) (D : ZipApart z TI TO i1 i2 a b) (hl : xs.length = ys.length) (hn : xs.length ≤ sizeLine)
    (I : Inv X pins σ H s) (hf : ∀ b ∈ [z, TI, TO, i1, i2], FpOk X pins H b) (hqx : SqL X.K H a xs) (hqy : SqL X.K H b ys) (Z : ZSt a b z TI TO i1 i2 0 s.heap) (hz : IsZip s.heap z TI TO .none)
    (h : ∀ s' H' Ts', Inv X pins σ H' s' → Ts'.length = xs.length → L2.Same H H' → Prs H' xs ys Ts' → Q₁ (.ref s'.heap.objs.size) { s' with heap := s'.heap.push { cls := .type "tuple", data := .seq (Ts'.map Value.ref).toArray } }) :
    codeAny (model X.prog X.w) A (.call (.builtin "tuple.__new__") ⟨[.type "tuple", .ref z], []⟩) (wants Q₁ E) s := by
  refine codeAny_of_tree ?_
  show wpAny _ A.in1 (do checkBuiltinCall "tuple.__new__" ⟨[.type "tuple", .ref z], []⟩; again (.builtin "tuple.__new__" ⟨[.type "tuple", .ref z], []⟩)) _ _ s
  refine wpAny_bind (wpAny_of_eq (F.newCall_tuple_1 _) (wpAny_pure ⟨plainId_quiet F.plain_tuple_new _, codeAny_builtin F.entry_tuple_new ?_⟩))
  rw [Around.under_plainId F.plain_tuple_new _]
  have hsub := sub_tuple_self
  have hinit := init_tuple_lookup
  have hmh := madeHere_tuple
  have hTI : s.TypeIs (.ref z) "zip" := ⟨_, hz, rfl⟩
  have hh1 : A.in1.handled = none := hh
  wp_walk using wpAny_typeOf hTI, collect_zip (X := X) (pins := pins) (σ := σ) (A := A.in1) hh1 D hl hn I hf hqx hqy Z hz
  intro s' H' Ts' I' l' sm P'
  show wpAny _ _ (Builtin.Tuple.tupleExact (Ts'.map Value.ref).toArray >>= fun v => ret v) _ _ _
  unfold Builtin.Tuple.tupleExact
  refine wpAny_bind (wpAny_newObj_type ?_ (by show (Ts'.map Value.ref).toArray.size ≤ sizeLine; simp; omega))
  refine wpAny_pure ?_
  exact h s' H' Ts' I' l' sm P'
theorem call_tuple_zip {A : Around} {E : Value → Shared → Prop} {Q : Value → Shared → Prop} {s : Shared} {H : Hp} (hh : A.handled = none) (D : ZipApart z TI TO i1 i2 a b) (hl : xs.length = ys.length) (hn : xs.length ≤ sizeLine)
    (I : Inv X pins σ H s) (hf : ∀ b ∈ [z, TI, TO, i1, i2], FpOk X pins H b) (hqx : SqL X.K H a xs) (hqy : SqL X.K H b ys) (Z : ZSt a b z TI TO i1 i2 0 s.heap) (hz : IsZip s.heap z TI TO .none)
    (hQ : ∀ s' H' Ts', Inv X pins σ H' s' → Ts'.length = xs.length → L2.Same H H' → Prs H' xs ys Ts' → Q (.ref s'.heap.objs.size) { s' with heap := s'.heap.push { cls := .type "tuple", data := .seq (Ts'.map Value.ref).toArray } }) :
    wpAny (model X.prog X.w) A (call (.type "tuple") [.ref z]) Q E s := by
  refine callType_codes (Q₁ := fun obj s₁ => s₁.TypeIs obj "tuple" ∧ Q obj s₁) F.called_tuple (F.typeCall_tuple_1 _) F.entry_object_init
    (code_tuple_new_zip (X := X) (pins := pins) (σ := σ) (A := A.in1) hh D hl hn I hf hqx hqy Z hz fun s' H' Ts' I' l' sm P' => ⟨⟨_, Heap.get?_push_size _ rfl, rfl⟩, hQ s' H' Ts' I' l' sm P'⟩) fun obj s₁ h₁ => ?_
  exact ⟨h₁.1, F.args_object_init_2 obj _, object_init_meets F.called_tuple.init.lookup F.called_tuple.made (by decide) X.prog X.w A.in1 _ s₁ ⟨h₁.1, rfl, h₁.2⟩⟩
end
/-- tuple(zip(xs, ys)) -/
def tTupZip (K : PySem.W.Frag) (ta : TA) : TE := fun σ H Q => ta σ H fun vs H1 => ∃ a b xs ys, vs = [.ref a, .ref b] ∧ SqL K H1 a xs ∧ SqL K H1 b ys ∧ xs.length = ys.length ∧ xs.length ≤ 1000 ∧
  ∀ Ts H2 q, Ts.length = xs.length → L2.Same H1 H2 → Prs H2 xs ys Ts → H2 q = none → Q (.ref q) (upd H2 q (.tup (Ts.map V.ref)))
theorem vals_refs : ∀ Ts : List Addr, Vals (Ts.map V.ref) (Ts.map Value.ref)
  | [] => .nil
  | _ :: t => .cons rfl (vals_refs t)
theorem pe_tupZip {X : Cx} {e e2 : Expr} {ta : TA} {p p2 q pos : Pos} (hg : Gl X "tuple") (hm : X.mg "tuple" = none) (hg2 : Gl X "zip") (hm2 : X.mg "zip" = none) (ha : PA X [e, e2] ta) (hc : X.calm = true := by rfl)
    (hs : starEach [e, e2] X.env = (false, eval e X.env) :: starEach [e2] X.env := by rfl) (hpl : (backTo q (starEach [e2] X.env)).any (·.1) = false := by rfl) :
    PE X (.Call (.Name "tuple" p) [.Call (.Name "zip" p2) [e, e2] [] q] [] pos) (tTupZip X.K ta) := by
  refine ⟨fun pins s σ H Q I h => ?_⟩
  refine Call_ (ld_blt I hg hm boot_tuple ?_)
  refine PyProof.Rows.callWith_type1 (PyProof.Rows.args_cons ?_ rfl) rfl rfl
  refine Call_ (ld_blt I hg2 hm2 PyProof.Rows.boot_zip (PyProof.Rows.callWith_type1 (thn (ha.run q pins s σ H _ I h) fun us s1 ⟨vs, H1, I1, r1, q1⟩ => ?_) hs hpl))
  obtain ⟨a, b, xs, ys, ex, hqx, hqy, hl, hn, q1⟩ := q1
  subst ex
  cases r1 with
  | cons r rr =>
    cases rr with
    | cons r' rr =>
      cases rr
      cases r
      cases r'
      obtain ⟨its, rv, p1, _⟩ := I1.list hqx
      obtain ⟨its2, rv2, p2, _⟩ := I1.list hqy
      refine call_zip_2 p1.isList p2.isList fun h' hz hTI hTO h1 h2 hsz hk => ?_
      refine PyProof.Rows.args_nil ?_
      have I2 : Inv X pins σ H1 { s1 with heap := h' } := I1.kept (t' := s1.toks) hk
      have fresh5 : ∀ c, c ∈ [s1.heap.objs.size + 4, s1.heap.objs.size + 2, s1.heap.objs.size + 3, s1.heap.objs.size, s1.heap.objs.size + 1] → FpOk X pins H1 c := fun c hcm => by
        have e' : c = s1.heap.objs.size + 4 ∨ c = s1.heap.objs.size + 2 ∨ c = s1.heap.objs.size + 3 ∨ c = s1.heap.objs.size ∨ c = s1.heap.objs.size + 1 := by simpa using hcm
        have hle : s1.heap.objs.size ≤ c := by
          rcases e' with z | z | z | z | z <;> rw [z] <;> first | exact Nat.le_refl _ | exact Nat.le_add_right _ _
        exact I1.fpOk hle (I1.hok.fresh hle)
      refine call_tuple_zip (X := X) (pins := pins) (σ := σ) (I1.ok.hd hc) (PySem.W.ktu_apart s1.heap.objs.size a b p1.lt p2.lt) hl (by rw [sizeLine_eq]; omega) I2 fresh5 hqx hqy ⟨h1, h2, hTI, ⟨_, hTO⟩, .inl ⟨hz, _, _, hTO⟩⟩ hz fun s' H' Ts' I' l' sm P' => ?_
      have new : ObjOk X.prog X.w (upd H' s'.heap.objs.size (.tup (Ts'.map V.ref))) (s'.heap.push { cls := .type "tuple", data := .seq (Ts'.map Value.ref).toArray }) s'.heap.objs.size (.tup (Ts'.map V.ref)) :=
        ⟨by rw [List.length_map, l', sizeLine_eq]; omega, Ts'.map Value.ref, vals_refs Ts', IsTup.new _ _⟩
      exact ⟨.ref s'.heap.objs.size, _, I'.laid (t' := s'.toks) (fun b o e => Heap.get?_push_of_some _ e) (Nat.le_refl _) new, rfl, q1 Ts' H' _ l' sm P' (I'.hok.fresh (Nat.le_refl _))⟩
end Z3

/-! set(l) of a list of integers, as a value that sorted takes. -/
namespace Own
open PySem PySem.Spec PyProof.Rows L2
section
variable {P : Program} {w : World} {A : Around} {E : Value → Shared → Prop} {s : Shared}
/-- the empty set as it is made -/
abbrev emO (w : World) : Obj := { cls := .type "set", dict := none, data := .set #[] 0 (.fresh 0 0 (!w.params.followText "set-order")) }
/-- a type is called: what it makes, the check of its init's arguments as a wish, its init -/
theorem made_by {T nw it : String} {B : Builtin} {xs : List Value} {Q Q1 : Value → Shared → Prop} (ft : TypeCalled T nw it) (c0 : checkTypeCall T ⟨xs, []⟩ = pure ()) (e0 : entryFor table it = some B)
    (mk : codeAny (model P w) A.in1 (.call (.builtin nw) ⟨.type T :: xs, []⟩) (wants Q1 E) s)
    (go : ∀ v z, Q1 v z → z.TypeIs v T ∧ (∀ {M' : Model} {A' : Around} {E' : Value → Shared → Prop} {Q' : Unit → Shared → Prop}, Q' () z → wpAny M' A' (checkBuiltinCall it ⟨v :: xs, []⟩) Q' E' z) ∧
      wpAny (model P w) A.in1.in1 (B ⟨v :: xs, []⟩)
        (fun d z' => match d with | .done f => wants (fun r z2 => r = .none ∧ Q v z2) E (.ok f) z' | .again k => k.quiet = true ∧ codeAny (model P w) A.in1 k (wants (fun r z2 => r = .none ∧ Q v z2) E) z')
        (fun e z' => wants (fun r z2 => r = .none ∧ Q v z2) E (.error e) z') z) :
    wpAny (model P w) A (call (.type T) xs) Q E s := by
  have ⟨k, ks, km⟩ := ft.mro
  have k1 := ft.made
  have k2 := ft.sub
  have k3 := ft.notType
  have k4 := ft.canCreate
  apply wpAny_call; apply codeAny_of_tree
  change wpAny (model P w) _ (callAny (Value.type T) ⟨xs, []⟩) _ _ _
  apply wpAny_pure; refine ⟨Code.quiet_builtin _ (by decide +kernel), ?_⟩
  apply codeAny_builtin F.entry_type_call
  rw [Around.under_plain (weight_type_call_type T xs []) rfl]
  repeat any_goals first | wp_step | assumption
  refine codeAny_mono mk ?_
  rintro (v | fl) z hz
  · exact hz
  · cases fl with
    | ret v =>
      obtain ⟨y1, y2, y3⟩ := go v z hz
      have k5 := ft.init.lookup
      have k6 := ft.init.bind v
      repeat any_goals first | wp_step | assumption
      refine codeAny_mono (codeAny_call_builtin ft.init.plain e0 (y2 y3)) ?_
      rintro (x | g) z2 hz2
      · exact hz2
      · cases g with
        | ret x =>
          obtain ⟨rfl, hq⟩ := hz2
          repeat any_goals first | wp_step | assumption
        | _ => exact hz2.elim
    | _ => exact hz.elim
theorem sets_of_list {l : Addr} {items : Array Value} (ns : List Int) {Q : Value → Shared → Prop} (hh : A.handled = none) (hl : s.heap.IsList l items) (hi : IntsAre items.toList ns) (few : ns.length < 64)
    (q : ∀ (h2 : Heap) (t2 c : Nat), c ≤ ns.length → SetR w h2 s.heap.objs.size (fun j => decide (j ∈ ns)) c → (∀ b o, s.heap.get? b = some o → h2.get? b = some o) → Q (.ref s.heap.objs.size) { s with heap := h2, toks := t2 }) :
    wpAny (model P w) A (call (.type "set") [Value.ref l]) Q E s := by
  have sz : items.size = ns.length := (Array.length_toList (xs := items)).symm.trans (IntsAre.length hi)
  refine made_by F.called_set (F.typeCall_set_1 _) F.entry_set_init (code_set_led1 _ (Q₁ := fun r z => r = .ref s.heap.objs.size ∧ z = { s with heap := s.heap.push (emO w) }) ⟨rfl, rfl⟩) ?_
  rintro _ _ ⟨rfl, rfl⟩
  have got : (s.heap.push (emO w)).get? s.heap.objs.size = some (emO w) := Heap.get?_push_size _ rfl
  refine ⟨⟨_, got, rfl⟩, fun y => check_set_init_1 ⟨_, got, rfl⟩ y, ?_⟩
  have hl2 : (s.heap.push (emO w)).IsList l items := hl.at fun o e => Heap.get?_push_of_some _ e
  obtain ⟨⟨oc, od, oa, os⟩, el, cl, cn, dl⟩ := id hl2
  dsimp only at cl dl
  subst cl dl
  have lS : l < s.heap.objs.size := by
    obtain ⟨o, e, _⟩ := hl
    exact Heap.lt_size e
  have no1 := F.sub_list_set
  have no2 := F.sub_list_frozenset
  have no3 : (Value.type "list" == Value.type "dict") = false := by decide
  unfold Builtin.«set.__init__»
  unfold noKeywords
  unfold Builtin.Frozenset.updateFrom
  generalize hPI : pyIter = PI
  wp_walk
  subst hPI
  refine wpAny_pyIter_list hl2 ?_
  refine wpAny_bind ?_
  refine wpAny_runValue ?_
  have n1 : (s.heap.push (emO w)).objs.size = s.heap.objs.size + 1 := Heap.size_push ..
  have ne1 : l ≠ (s.heap.push (emO w)).objs.size := by
    rw [n1]
    exact Nat.ne_of_lt (Nat.lt_succ_of_lt lS)
  refine set_update_ints ((Walks.list (by simp [hh]) _ l ne1 items).toS) s.heap.objs.size ?_ ns sz (by unfold scanBound; omega) (fun i v hv => ?_) (items.size - 0) 0 _ (by omega) (Nat.zero_le _) ⟨⟨_, Heap.get?_push_size _ rfl, rfl, rfl⟩, hl2.push _⟩ ⟨0, Nat.le_refl 0, setR_new_at (Heap.get?_push_of_some _ got)⟩ (fun z c mv hc R => ?_)
  · simp only [List.mem_cons, List.not_mem_nil, or_false, not_or]
    rw [n1]
    exact ⟨Nat.ne_of_lt (Nat.lt_succ_self _), Nat.ne_of_gt lS⟩
  · have hv : items[i]? = some v := hv
    obtain ⟨t, e⟩ := IntsAre.int_at hi i v (by rw [Array.getElem?_toList]; exact hv)
    have li : i < ns.length := by
      rw [← sz]
      exact (Array.getElem?_eq_some_iff.mp hv).1
    exact ⟨_, t, List.getElem?_eq_getElem li, by rw [e, List.getD_eq_getElem?_getD, List.getElem?_eq_getElem li]; rfl⟩
  · obtain ⟨h2, g2, d2, t2, o2⟩ := z
    obtain rfl : g2 = s.gens := mv.gens
    obtain rfl : d2 = s.drawn := mv.drawn
    obtain rfl : o2 = s.os := mv.os
    refine wpAny_pure (wpAny_pure ⟨rfl, q h2 t2 c (by omega) R fun b o e => ?_⟩)
    have lb : b < s.heap.objs.size := Heap.lt_size e
    refine mv.heap b o ?_ (Heap.get?_push_of_some _ (Heap.get?_push_of_some _ e))
    rw [n1]
    simp only [List.mem_cons, List.not_mem_nil, or_false, not_or]
    exact ⟨Nat.ne_of_lt lb, Nat.ne_of_lt (Nat.lt_succ_of_lt lb)⟩
def rSetL (K : PySem.W.Frag) (w : World) : List V → Hp → VK → Prop := fun xs H Q => ∃ (l : Addr) (ns : List Int), xs = [.ref l] ∧ SqL K H l (ns.map V.int) ∧ ns.length < 64 ∧ ∀ (p : Addr) (c : Nat), c ≤ ns.length → H p = none → Q (.ref p) (upd H p (SetO w p (fun j => decide (j ∈ ns)) c))
theorem cr_setL {X : Cx} (hc : X.calm = true) : CallR X (.type "set") (rSetL X.K X.w) := by
  intro pins s σ H xs us Q I r h
  obtain ⟨l, ns, rfl, hs, few, q⟩ := h
  rw [Vals.ref1 r]
  obtain ⟨its, rv, pl, hz⟩ := I.list hs
  refine sets_of_list (P := X.prog) (w := X.w) ns (I.ok.hd hc) pl.isList (by simpa using ints_of_vals rv) few fun h2 t2 c hc2 R k => ?_
  exact ⟨.ref s.heap.objs.size, upd H s.heap.objs.size (SetO X.w s.heap.objs.size (fun j => decide (j ∈ ns)) c), I.laid (t' := t2) k (Nat.le_refl _) (setO_new R), rfl, q _ c hc2 (I.hok.fresh (Nat.le_refl _))⟩
end
end Own

/-! set(t) of a tuple of integers, sorted(set) of up to thousands. -/
namespace Own
open PySem PySem.Spec PyProof.Rows L2 RZ
section
variable {P : Program} {w : World} {A : Around} {E : Value → Shared → Prop} {s : Shared} {a : Addr}
def rSetTN (K : PySem.W.Frag) (w : World) : List V → Hp → VK → Prop := fun xs H Q => ∃ (l : Addr) (ns : List Int), xs = [.ref l] ∧ SqT K H l (ns.map V.int) ∧ ns.length ≤ 1000 ∧ ∀ (p : Addr) (c : Nat), c ≤ ns.length → H p = none → Q (.ref p) (upd H p (SetO w p (fun j => decide (j ∈ ns)) c))
theorem cr_setTN {X : Cx} (hc : X.calm = true) : CallR X (.type "set") (rSetTN X.K X.w) := by
  intro pins s σ H xs us Q I r h
  obtain ⟨l, ns, rfl, hq, hl, q⟩ := h
  rw [Vals.ref1 r]
  obtain ⟨its, rv, pl, hz⟩ := I.tuple hq
  refine call_set_tupI ns (I.ok.hd hc) pl (by simpa using intsAre_vals rv) (by unfold scanBound; omega) fun h' tk c hS hc' hk => ?_
  exact ⟨.ref s.heap.objs.size, upd H s.heap.objs.size (SetO X.w s.heap.objs.size (fun j => decide (j ∈ ns)) c), I.laid (t' := tk) hk (Nat.le_refl _) (setO_new hS), rfl, q _ c (by omega) (I.hok.fresh (Nat.le_refl _))⟩
theorem sorted_setN {S : Int → Bool} {n : Nat} {Q : Value → Shared → Prop} (R : SetR w s.heap a S n) (hh : A.handled = none) (few : n ≤ 4000)
    (hQ : ∀ (s' : Shared) (p : Addr) (out : Array Value) (c : Nat) (ns : List Int), (∀ b o, s.heap.get? b = some o → s'.heap.get? b = some o) → s'.gens = s.gens → s'.os = s.os → s.heap.objs.size ≤ p →
      s'.heap.get? p = some (seqObj "list" out c) → IntsAre out.toList ns → ns.Pairwise (· < ·) → (∀ k, k ∈ ns ↔ S k = true) → ns.length = n → Q (.ref p) s') :
    wpAny (model P w) A (call (.builtin "sorted") [.ref a]) Q E s := by
  obtain ⟨o, es, ep, t, ho, hex, hd, g, nd, hm, hb, hf, hn, hr, hl⟩ := R
  have len : (es.toList.map keyOf).length = n := by rw [List.length_map, Array.length_toList]; exact hn
  refine Calls.call_function_entry kind_sorted plain_sorted entry_sorted (args_sorted1 _) ?_
  unfold Builtin.«sorted»
  refine wpAny_bind (m := checkCount "sorted" 1 1 _) (wpAny_pure ?_)
  refine wpAny_bind (collect_set (A := A.in1) hh ⟨o, ho, hex.1, hd⟩ hf hb hr hl fun s1 vs k1 hz g1 o1 pm => ?_)
  have pk : (vs.map Builtin.Re.reRawOf).Perm (es.toList.map keyOf) := by
    have q := pm.map Builtin.Re.reRawOf
    rw [List.map_map] at q
    exact q
  have hvl : vs.length = n := by
    have := pk.length_eq
    rw [List.length_map, len] at this
    exact this
  have zz : vs.length ≤ sizeLine := by rw [hvl, sizeLine_eq]; omega
  have hI : IntsAre vs (vs.map Builtin.Re.reRawOf) := ints_of vs fun v hv => by
    obtain ⟨e, he, q⟩ := List.mem_map.mp (pm.mem_iff.mp hv)
    obtain ⟨k, tk, h1, _⟩ := g e he
    exact ⟨k, tk, q ▸ h1⟩
  refine wpAny_bind (wpAny_newList ?_ zz)
  have hoL : (s1.heap.push (seqObj "list" vs.toArray 0)).get? s1.heap.objs.size = some (seqObj "list" vs.toArray 0) := Heap.get?_push_size _ rfl
  refine wpAny_bind (wpAny_holding (wpAny_call_entry slot_list_sort ⟨_, hoL, rfl⟩ entry_list_sort (list_sort_treeAny hoL hI zz fun out ns' a1 a2 a3 => ⟨_, rfl, ?_⟩) (args_list_sort _)))
  obtain ⟨c, hc⟩ := sortedHeap_at (vs := vs) (out := out) hoL
  have pn : ns'.Perm (es.toList.map keyOf) := a2.trans pk
  refine wpAny_pure ⟨_, rfl, hQ _ s1.heap.objs.size out c ns' (fun b u e => ?_) g1 o1 hz hc a1 (lt_of_le_nodup ns' a3 (pn.nodup_iff.mpr nd)) (fun k => by rw [pn.mem_iff, ← hm k]) (pn.length_eq.trans len)⟩
  have hlt := Heap.lt_size (k1 b u e)
  show (sortedHeap (s1.heap.push (seqObj "list" vs.toArray 0)) s1.heap.objs.size vs out).get? b = some u
  rw [sortedHeap_old (Nat.ne_of_lt hlt) (by rw [size_push']; exact Nat.lt_succ_of_lt hlt)]
  exact Heap.get?_push_of_some _ (k1 b u e)
def rSortedSetN (w : World) : List V → Hp → VK → Prop := fun vs H Q => ∃ (a : Addr) (S : Int → Bool) (n : Nat), vs = [V.ref a] ∧ H a = some (SetO w a S n) ∧ n ≤ 4000 ∧
  ∀ (ns : List Int) (p : Addr), ns.Pairwise (· < ·) → (∀ k : Int, k ∈ ns ↔ S k = true) → H p = none → Q (.ref p) (upd H p (.lst (ns.map V.int)))
theorem cr_sortedSetN {X : Cx} (hc : X.calm = true) : CallR X (.builtin "sorted") (rSortedSetN X.w) := by
  intro pins s σ H vs us Q I r h
  obtain ⟨a, S, n, rfl, ha, few, q⟩ := h
  rw [Vals.ref1 r]
  refine sorted_setN (setO_get I ha) (I.ok.hd hc) few fun s' p out c ns k g o hp hg hi hs hm hl => ?_
  have hlen : (ns.map V.int).length ≤ sizeLine := by rw [List.length_map, hl, sizeLine_eq]; omega
  have hn : H p = none := I.hok.fresh hp
  obtain ⟨h2, g2, d2, t2, o2⟩ := s'
  obtain rfl : g2 = s.gens := g
  obtain rfl : o2 = s.os := o
  have J : Inv X pins σ (upd H p (.lst (ns.map V.int))) { s with heap := h2, gens := s.gens, drawn := d2, toks := t2 } :=
    I.call (ch := []) (Un.laid k hp hn) (I.hok.laid k hp ⟨hlen, out.toList, c, vals_of_ints hi, hg⟩) I.bare (fun _ z => nomatch z)
  exact ⟨.ref p, _, J, rfl, q ns p hs hm hn⟩
end
end Own

/-! sorted(.., key=lambda ..) over tracked heaps. -/
namespace SrK
open PySem PySem.Spec PySem.W PyProof.Rows L2
section
variable {K : PySem.W.Frag} {H H' : Hp}
theorem sqT_same {a : Addr} {xs : List V} (e : L2.Same H H') (h : SqT K H a xs) : SqT K H' a xs :=
  h.elim (fun h => .inl (h.elim (fun h => .inl (e _ _ h)) fun ⟨o, h⟩ => .inr ⟨o, e _ _ h⟩)) fun h => .inr h
mutual
theorem dp_same (e : L2.Same H H') : ∀ (d : PyData) (v : V), Dp K H v d → Dp K H' v d
  | .none, _, h => by cases h; exact .non
  | .bool b, _, h => by cases h; exact .bl b
  | .int i, _, h => by cases h; exact .int i
  | .str x, _, h => by cases h; exact .str x
  | .list ds, _, h => by
    cases h with
    | lst hs ha => exact .lst (e.seq hs) (dpAll_same e ds _ ha)
  | .tuple ds, _, h => by
    cases h with
    | tup hs ha => exact .tup (sqT_same e hs) (dpAll_same e ds _ ha)
  | .dict _, _, h => by cases h
theorem dpAll_same (e : L2.Same H H') : ∀ (ds : List PyData) (vs : List V), DpAll K H vs ds → DpAll K H' vs ds
  | [], _, h => by cases h; exact .nil
  | d :: ds, _, h => by
    cases h with
    | cons h1 h2 => exact .cons (dp_same e d _ h1) (dpAll_same e ds _ h2)
end
theorem dpAll_snoc {v : V} {d : PyData} (h : Dp K H v d) : ∀ {vs : List V} {ds : List PyData}, DpAll K H vs ds → DpAll K H (vs ++ [v]) (ds ++ [d])
  | _, _, .nil => .cons h .nil
  | _, _, .cons h1 h2 => .cons h1 (dpAll_snoc h h2)
theorem dpAll_len : ∀ {vs : List V} {ds : List PyData}, DpAll K H vs ds → vs.length = ds.length
  | _, _, .nil => rfl
  | _, _, .cons _ h2 => by rw [List.length_cons, List.length_cons, dpAll_len h2]
end
theorem vals_each {is : List Int} {us : List Value} (h : EachIs (fun (v : Value) (i : Int) => RelV (.int i) v) us is) : Vals (is.map V.int) us := by
  induction h with
  | nil => exact .nil
  | cons h1 _ ih => exact .cons h1 ih
theorem each_vals : ∀ {is : List Int} {us : List Value}, Vals (is.map V.int) us → EachIs (fun (v : Value) (i : Int) => RelV (.int i) v) us is
  | [], _, h => by cases h; exact .nil
  | i :: is, _, h => by
    cases h with
    | cons h1 h2 => exact .cons h1 (each_vals h2)
section
variable {X : Cx} {pins : List (Addr × Obj)} {σ : L2.St} {H : Hp} {s : Shared} {A : Around} {E : Value → Shared → Prop}
theorem fp_same {b : Addr} {H1 : Hp} (f : FpOk X pins H b) (n : H1 b = none) : FpOk X pins H1 b := ⟨n, f.2⟩
theorem turnOne {b : Addr} {h' : Heap} {t' : Nat} (I : Inv X pins σ H s) (f : FpOk X pins H b) (k : ∀ c o, c ≠ b → s.heap.get? c = some o → h'.get? c = some o) : Inv X pins σ H { s with heap := h', toks := t' } :=
  I.turned k f.1 f.2.1 f.2.2.2.1 f.2.2.2.2.1 f.2.2.2.2.2
theorem lst_data {a : Addr} {xs : Array Value} {n : Nat} : ∀ v, (seqObj "list" xs n).data ≠ .cell v := fun v z => by cases z
/-- what a turn of the key gives -/
def KeyTurn (X : Cx) (A : Around) (E : Value → Shared → Prop) (fa : Value) (H0 : Hp) (pins : List (Addr × Obj)) (σ : L2.St) (i : Int) (k : PyData) : Prop :=
  ∀ (u : Value) (H1 : Hp) (s1 : Shared) (more : List (Addr × Obj)), RelV (.int i) u → L2.Same H0 H1 → Inv X (pins ++ more) σ H1 s1 →
    wpAny (model X.prog X.w) A (call fa [u]) (EP X (pins ++ more) σ fun v H2 => L2.Same H1 H2 ∧ Dp X.K H2 v k) E s1
theorem key_loop {a kS : Addr} {e1 : Nat} {fa : Value} {k : Int → PyData} {is : List Int} {P : PySem.Fin → Shared → Prop} {its : List Value} (I : Inv X pins σ H s) (fA : FpOk X pins H a) (fK : FpOk X pins H kS) (na : s.heap.get? a = some (seqObj "list" #[] e1)) (nk : s.heap.get? kS = some (seqObj "list" #[] 0))
    (hka : kS ≠ a) (rv : Vals (is.map V.int) its) (hZ : its.length ≤ sizeLine) (turn : ∀ i ∈ is, KeyTurn X A (fun _ _ => False) fa H pins σ i (k i))
    (fin : ∀ (H' : Hp) (s' : Shared) (kA : Array Value) (e : Nat) (kvs : List V), L2.Same H H' → Inv X pins σ H' s' → FpOk X pins H' a → FpOk X pins H' kS → s'.heap.get? a = some (seqObj "list" #[] e1) → s'.heap.get? kS = some (seqObj "list" kA e) → Vals kvs kA.toList → DpAll X.K H' kvs (is.map k) →
      wpAny (model X.prog X.w) A (Builtin.List.listItems (.ref kS) >>= fun keys => ksk_end a false its.toArray e1 (.ref kS) keys) P E s') :
    wpAny (model X.prog X.w) A (ksk_rest a fa false its.toArray e1 (.ref kS)) P E s := by
  have lI : is.length = its.length := by have := rv.length; rw [List.length_map] at this; exact this
  unfold ksk_rest
  refine wpAny_bind (wpAny_rule ?_)
  rw [show (forIn its.toArray PUnit.unit : (Value → PUnit → Sem (ForInStep PUnit)) → Sem PUnit) = forIn its PUnit.unit from by funext g; simp]
  refine wpAny_bind (ksk_fold (fun i s' => ∃ (H' : Hp) (kA : Array Value) (e : Nat) (kvs : List V), L2.Same H H' ∧ Inv X pins σ H' s' ∧ FpOk X pins H' a ∧ FpOk X pins H' kS ∧ s'.heap.get? a = some (seqObj "list" #[] e1) ∧ s'.heap.get? kS = some (seqObj "list" kA e) ∧ Vals kvs kA.toList ∧ DpAll X.K H' kvs ((is.map k).take i)) its 0 s
    ⟨H, #[], 0, [], L2.Same.refl H, I, fA, fK, na, nk, .nil, by rw [List.take_zero]; exact .nil⟩ ?st ?dn)
  case st =>
    rintro j u s' hu ⟨H', kA, e, kvs, sm, I', fa', fk', na', nk', vk, dk⟩
    simp only [Nat.zero_add] at dk ⊢
    obtain ⟨i, hi, ri⟩ : ∃ i, is[j]? = some i ∧ RelV (.int i) u := by
      have hj : j < is.length := by rw [lI]; exact (List.getElem?_eq_some_iff.mp hu).1
      have e0 : (is.map V.int)[j]? = some (.int is[j]) := by rw [List.getElem?_map, List.getElem?_eq_getElem hj]; rfl
      obtain ⟨u', hu', r⟩ := rv.get e0
      rw [hu] at hu'
      rw [← Option.some.inj hu'] at r
      exact ⟨is[j], List.getElem?_eq_getElem hj, r⟩
    have Ip := I'.pinned (fp := [a, kS]) (fun b hb => by
      rcases List.mem_cons.mp hb with z | z
      · rw [z]; exact fa'
      · rw [List.mem_singleton.mp z]; exact fk') (fun b hb => by
      rcases List.mem_cons.mp hb with z | z
      · rw [z]; exact ⟨_, na', lst_data (a := a)⟩
      · rw [List.mem_singleton.mp z]; exact ⟨_, nk', lst_data (a := a)⟩)
    have pA : (a, seqObj "list" #[] e1) ∈ pinsAt [a, kS] s'.heap := List.mem_filterMap.mpr ⟨a, List.mem_cons_self .., by rw [na']; rfl⟩
    have pK : (kS, seqObj "list" kA e) ∈ pinsAt [a, kS] s'.heap := List.mem_filterMap.mpr ⟨kS, List.mem_cons_of_mem _ (List.mem_cons_self ..), by rw [nk']; rfl⟩
    refine wpAny_bind (wpAny_attempt (wpAny_mono (turn i (List.mem_of_getElem? hi) u H' s' _ ri sm Ip) (fun r s2 he => ?_) fun _ _ hF => hF.elim))
    obtain ⟨v, H2, I2, rv2, sm2, dv⟩ := he
    have q1 := I2.pin _ (List.mem_append_right _ (List.mem_append_right _ pA))
    have q2 := I2.pin _ (List.mem_append_right _ (List.mem_append_right _ pK))
    have J := I2.unpinned
    have fa2 := fp_same fa' q1.2.1
    have fk2 := fp_same fk' q2.2.1
    have na2 : s2.heap.get? a = some (seqObj "list" #[] e1) := q1.1
    have nk2 : s2.heap.get? kS = some (seqObj "list" kA e) := q2.1
    have sb := Heap.SameBut.update s2.heap kS (Obj.mapSeq (·.push r))
    obtain ⟨c2, hc2⟩ : ∃ c2, (s2.heap.update kS (Obj.mapSeq (·.push r))).get? kS = some (seqObj "list" (kA.push r) c2) := ⟨_, get?_update_seq nk2 (·.push r)⟩
    have hz : kA.size ≤ sizeLine := by
      have h1 := vk.length
      have h2 := dpAll_len dk
      rw [List.length_take, List.length_map] at h2
      have h3 : kA.toList.length = kA.size := Array.length_toList
      have : j < its.length := (List.getElem?_eq_some_iff.mp hu).1
      omega
    try dsimp only
    refine wpAny_bind (listUpdate_at nk2 rfl ?_ hz (by rw [Array.size_push]; omega))
    refine wpAny_pure ⟨rfl, H2, kA.push r, c2, kvs ++ [v], sm.trans sm2, turnOne (t' := s2.toks) J fk2 (fun c o hc ho => (sb.2 c hc).trans ho), fa2, fk2, (sb.2 a hka.symm).trans na2, hc2, ?_, ?_⟩
    · rw [Array.toList_push]
      exact vk.append (.cons rv2 .nil)
    · have ek : (is.map k).take (j + 1) = (is.map k).take j ++ [k i] := by
        rw [List.take_add_one, List.getElem?_map, hi]; rfl
      rw [ek]
      exact dpAll_snoc dv (dpAll_same sm2 _ _ dk)
  case dn =>
    rintro s' ⟨H', kA, e, kvs, sm, I', fa', fk', na', nk', vk, dk⟩
    rw [Nat.zero_add, List.take_of_length_le (by rw [List.length_map, lI]; exact Nat.le_refl _)] at dk
    exact fin H' s' kA e kvs sm I' fa' fk' na' nk' vk dk
theorem key_tree {a : Addr} {n : Nat} {fa : Value} {k : Int → PyData} {is : List Int} {P : PySem.Fin → Shared → Prop} {its : List Value} (I : Inv X pins σ H s) (fA : FpOk X pins H a) (ho : s.heap.get? a = some (seqObj "list" its.toArray n))
    (rv : Vals (is.map V.int) its) (hZ : its.length ≤ sizeLine) (hal : AllAlike (is.map k)) (hsk : Sortable (is.map k)) (hu : ∀ d ∈ is.map k, A.units + d.depth < cLine) (turn : ∀ i ∈ is, KeyTurn X A (fun _ _ => False) fa H pins σ i (k i))
    (fin : ∀ (H' : Hp) (s' : Shared), L2.Same H H' → H' a = none → Inv X pins σ (upd H' a (.lst ((is.mergeSort (dataLe false k)).map V.int))) s' → P (.done (.ret .none)) s') :
    wpAny (model X.prog X.w) A (ksk_tree a fa false) P E s := by
  have lI : is.length = its.length := by have := rv.length; rw [List.length_map] at this; exact this
  obtain ⟨e1, ho1⟩ : ∃ e1, (s.heap.update a (Obj.mapSeq fun _ => (#[] : Array Value))).get? a = some (seqObj "list" #[] e1) := ⟨_, get?_update_seq ho fun _ => #[]⟩
  have sb := Heap.SameBut.update s.heap a (Obj.mapSeq fun _ => (#[] : Array Value))
  have I1 := turnOne (t' := s.toks) I fA (fun c o hc e => (sb.2 c hc).trans e)
  unfold ksk_tree
  refine wpAny_bind (listItems_at ho rfl ?_)
  refine wpAny_bind (listUpdate_at ho rfl ?_ (by rw [List.size_toArray]; exact hZ) (Nat.zero_le _))
  refine wpAny_bind (seqEpoch_at ho1 rfl ?_)
  refine wpAny_bind (wpAny_newTuple ?_ (by show its.length ≤ _; exact hZ))
  refine wpAny_bind (wpAny_newList ?_ (Nat.zero_le _))
  refine wpAny_holding ?_
  generalize hg1 : (s.heap.update a (Obj.mapSeq fun _ => (#[] : Array Value))).push (seqObj "tuple" its.toArray 0) = g1
  have k1 : ∀ b o, (s.heap.update a (Obj.mapSeq fun _ => (#[] : Array Value))).get? b = some o → g1.get? b = some o := fun b o e => by rw [← hg1]; exact Heap.get?_push_of_some _ e
  have I2 : Inv X pins σ H { s with heap := g1 } := I1.kept (t' := s.toks) k1
  have I3 : Inv X pins σ H { s with heap := g1.push (seqObj "list" #[] 0) } := I2.kept (t' := s.toks) fun b o e => Heap.get?_push_of_some _ e
  have nK : H g1.objs.size = none := I2.hok.fresh (Nat.le_refl _)
  have fK : FpOk X pins H g1.objs.size := I2.fpOk (Nat.le_refl _) nK
  have hka : g1.objs.size ≠ a := fun z => by
    have := Heap.lt_size (k1 _ _ ho1)
    rw [z] at this
    exact Nat.lt_irrefl _ this
  refine key_loop (k := k) I3 fA fK (Heap.get?_push_of_some _ (k1 _ _ ho1)) (Heap.get?_push_size _ rfl) hka rv hZ turn fun H' s' kA e kvs sm I' fa' fk' na' nk' vk dk => ?_
  refine wpAny_bind (listItems_at nk' rfl ?_)
  obtain ⟨as, ra⟩ := Dp.readsAll I' _ _ _ dk vk
  have re : EachIs (fun v k => ∃ as, Reads s'.heap v k as) kA.toList (is.map k) := each_map k (readsAll_each k ra)
  have hsz : kA.size = its.length := by
    have h1 := vk.length
    have h2 := dpAll_len dk
    rw [List.length_map] at h2
    have h3 : kA.toList.length = kA.size := Array.length_toList
    omega
  obtain ⟨G, g2, g3⟩ := restrict s'.heap (fun b => !decide (b = g1.objs.size))
  have gG : ∀ b o, G.get? b = some o → s'.heap.get? b = some o := fun b o e => by
    by_cases hb : b = g1.objs.size
    · rw [g3 b (by simp [hb])] at e
      cases e
    · rw [g2 b (by simp [hb])] at e
      exact e
  refine keyH_end (κ := dataKind s'.heap (is.map k)) (h₁ := G) (fun b o _ e => gG b o e) (g3 _ (by simp)) nk' na' hka (SortsAt.data re hal hsk hu) hsz hZ fun h3 tk3 c k3 n3 => ?_
  have ko : KeyedOut false (is.map k) its (sortVals (dataKind s'.heap (is.map k)) false kA.toList its) := ⟨s'.heap, kA.toList, hal, rfl, re⟩
  have eo := vals_each (keyedOut_each k ko (each_vals rv))
  have kk : ∀ b o, b ∉ [a, g1.objs.size] → s'.heap.get? b = some o → h3.get? b = some o := fun b o hb e => by
    have hb1 : b ≠ a := fun z => hb (by simp [z])
    have hb2 : b ≠ g1.objs.size := fun z => hb (by simp [z])
    exact k3 b o hb1 (by rw [g2 b (by simp [hb2])]; exact e)
  have J : Inv X pins σ H' { s' with heap := h3, toks := tk3 } := I'.turnedL kk (fun b hb => by
    rcases List.mem_cons.mp hb with z | z
    · rw [z]; exact fa'
    · rw [List.mem_singleton.mp z]; exact fk')
  have hlen : ((is.mergeSort (dataLe false k)).map V.int).length ≤ sizeLine := by
    rw [List.length_map, List.length_mergeSort, lI]; exact hZ
  exact fin H' _ sm fa'.1 (J.take (t' := tk3) (fun _ _ _ e => e) fa' ⟨hlen, _, c, eo, n3⟩)
theorem sorted_key {r f : Addr} {k : Int → PyData} {is : List Int} {Q : VK} (I : Inv X pins σ H s)
    (hcol : ∀ Q' : List Value → Shared → Prop, (∀ (its : List Value) (h' : Heap) (tk : Nat), (∀ b o, s.heap.get? b = some o → h'.get? b = some o) → Vals (is.map V.int) its → its.length ≤ sizeLine → Q' its { s with heap := h', toks := tk }) → wpAny (model X.prog X.w) A.in1 (collect (.ref r)) Q' E s)
    (hal : AllAlike (is.map k)) (hsk : Sortable (is.map k)) (hu : ∀ d ∈ is.map k, A.units + 2 + d.depth < cLine) (turn : ∀ i ∈ is, KeyTurn X A.in1.in1 (fun _ _ => False) (.ref f) H pins σ i (k i))
    (fin : ∀ (H' : Hp) (p : Addr), L2.Same H H' → H' p = none → Q (.ref p) (upd H' p (.lst ((is.mergeSort (dataLe false k)).map V.int)))) :
    wpAny (model X.prog X.w) A (call (.builtin "sorted") [.ref r] [(Str.ofString "key", .ref f)]) (EP X pins σ Q) E s := by
  refine call_function_entry_kw kind_sorted plain_sorted entry_sorted (ksk_s1 _ _) ?_
  unfold Builtin.«sorted»
  refine wpAny_bind (m := checkCount "sorted" 1 1 _) (wpAny_pure ?_)
  refine wpAny_bind (hcol _ fun its h' tk kp rv hZ => ?_)
  refine wpAny_bind (wpAny_newList ?_ hZ)
  have I1 : Inv X pins σ H { s with heap := h', toks := tk } := I.kept kp
  have nA : H h'.objs.size = none := I1.hok.fresh (Nat.le_refl _)
  have fA : FpOk X pins H h'.objs.size := I1.fpOk (Nat.le_refl _) nA
  have I2 : Inv X pins σ H { s with heap := h'.push (seqObj "list" its.toArray 0), toks := tk } := I1.kept (t' := tk) fun b o e => Heap.get?_push_of_some _ e
  have ho : (h'.push (seqObj "list" its.toArray 0)).get? h'.objs.size = some (seqObj "list" its.toArray 0) := Heap.get?_push_size _ rfl
  refine wpAny_bind (wpAny_holding (wpAny_call_entry_kw slot_list_sort ⟨_, ho, rfl⟩ entry_list_sort ?body (ksk_l1 _ _)))
  case body =>
    rw [ksk_t1]
    refine key_tree (A := A.in1.in1) (k := k) I2 fA ho rv hZ hal hsk hu ?_ fun H' s' sm na J => ⟨_, rfl, ?_⟩
    · intro i hi u H1 s1 more ru sm J
      exact turn i hi u H1 s1 more ru sm J
    · exact wpAny_pure ⟨_, rfl, ⟨.ref h'.objs.size, _, J, rfl, fin H' _ sm na⟩⟩
end
/-! ### a lambda with one parameter, called while the maker still runs -/
structure LamP (sc scope : Scope) (a : Str) : Prop where
  fk : scope.kind = .function
  fc : scope.isCoroutine = false
  fg : scope.isGenerator = false
  nc : ∀ y ∈ scope.names, y.2 ≠ .cell
  own : scope.names.lookup a = some .local
  one : ∀ y, scope.names.lookup y = some .local → y = a
  cap : ∀ y ∈ scope.names, y.2 = .free → sc.names.lookup y.1 = some .cell ∨ sc.names.lookup y.1 = some .free
def lamPB (sc scope : Scope) (a : Str) : Bool :=
  decide (scope.kind = .function) && !scope.isCoroutine && !scope.isGenerator && decide (scope.names.lookup a = some .local) &&
  scope.names.all fun y => !decide (y.2 = .cell) && (!decide (scope.names.lookup y.1 = some .local) || decide (y.1 = a)) && (!decide (y.2 = .free) || decide (sc.names.lookup y.1 = some .cell) || decide (sc.names.lookup y.1 = some .free))
theorem lamP_by {sc scope : Scope} {a : Str} (h : lamPB sc scope a = true) : LamP sc scope a := by
  unfold lamPB at h
  simp only [Bool.and_eq_true, Bool.or_eq_true, Bool.not_eq_true', decide_eq_true_eq, decide_eq_false_iff_not, List.all_eq_true] at h
  obtain ⟨⟨⟨⟨h1, h2⟩, h3⟩, h4⟩, h5⟩ := h
  refine { fk := h1, fc := h2, fg := h3, own := h4, nc := fun y hy => (h5 y hy).1.1, one := fun y hy => ?_, cap := fun y hy e => ?_ }
  · have := (h5 _ (PySem.mem_of_lookup hy)).1.2
    rcases this with z | z
    · exact absurd hy z
    · exact z
  · rcases (h5 y hy).2 with (z | z) | z
    · exact absurd e z
    · exact .inl z
    · exact .inr z
/-- the lambda's frame -/
abbrev lamE (X : Cx) (scope : Scope) (l f c' : Addr) : Env := PySem.W.envX (X.env.qual ++ "<lambda>") scope l f (.ref c') (cloFrom X.env.cells scope.names [])
/-- the context of its body; the parameter stands ahead of the maker's names -/
def lamC (X : Cx) (A : Around) (s : Shared) (H : Hp) (scope : Scope) (f c' : Addr) (a : Str) : Cx :=
  { prog := X.prog, w := X.w, K := X.K, mg := X.mg, base := X.base, A := A.deeper (lamE X scope s.heap.objs.size f c'), N := a :: X.N, s_0 := s, H_0 := H, env := lamE X scope s.heap.objs.size f c', outer := X.stack,
    stack := lamE X scope s.heap.objs.size f c' :: X.stack, ex := [], fn := fun _ => false, calm := true, pn := [],
    xe := fun e s' => wpAny (model X.prog X.w) (A.deeper (lamE X scope s.heap.objs.size f c')) (leaving (lamE X scope s.heap.objs.size f c') e) (fun _ _ => False) (fun _ _ => False) s' }
section
variable {X : Cx} {pins : List (Addr × Obj)} {σ : L2.St} {H : Hp} {s : Shared} {A : Around}
theorem lam_in {scope : Scope} {f c' : Addr} {a : Str} {x : V} {u : Value} {h₁ : Heap} {tk : Nat} (I : Inv X pins σ H s) (L : LamP X.env.scope scope a) (na : a ∉ X.N) (hd : A.handled = none) (hA : A.frames = some X.stack) (rx : RelV x u)
    (hns : h₁.Ns s.heap.objs.size fun y => [(a, u)].reverse.lookup y) (kp : ∀ b o, s.heap.get? b = some o → h₁.get? b = some o) : Inv (lamC X A s H scope f c' a) [] (some x :: σ) H { s with heap := h₁, toks := tk } := by
  have e0 := I.env0
  have hcap : ∀ y ∈ scope.names, y.2 = .free → ∃ c, X.env.cells.lookup y.1 = some c := fun y hy e => by
    rcases L.cap y hy e with k | k
    · exact I.ok.has _ (.inl k)
    · exact I.ok.has _ (.inr k)
  have cm : ∀ {y c}, (cloFrom X.env.cells scope.names []).lookup y = some c → X.env.cells.lookup y = some c := fun {y c} e => by
    rcases cloFrom_mem (PySem.mem_of_lookup e) with hm | ⟨h1, h2⟩
    · cases hm
    · obtain ⟨c1, hc⟩ := hcap _ h1 rfl
      have hc' : X.env.cells.lookup y = some c1 := hc
      have e2 : c = c1 := by rw [h2, hc'] <;> rfl
      rw [e2]; exact hc'
  have lk : ∀ {y}, scope.names.lookup y = some .free → ∃ c, (cloFrom X.env.cells scope.names []).lookup y = some c := fun {y} hl => by
    have hy : (y, NameKind.free) ∈ scope.names := PySem.mem_of_lookup hl
    exact mem_lookup (cloFrom_has (cells := X.env.cells) (acc := []) hy)
  have ck : ∀ {c : Addr} {v : Option Value}, s.heap.IsCell c v → h₁.IsCell c v := fun {c v} ⟨o, ho, hd⟩ => ⟨o, kp _ _ ho, hd⟩
  have no : ∀ b : Addr, b ∉ (lamC X A s H scope f c' a).ex := fun b z => absurd (show b ∈ ([] : List Addr) from z) (by simp)
  have ok : (lamC X A s H scope f c' a).Ok :=
    { mod := e0.mod, kind := L.fk, glob := rfl, blt := rfl, above := Nat.le_refl _
      inj := fun y z c e1 e2 => I.ok.inj y z c (cm e1) (cm e2)
      has := fun y hy => by
        have hy : scope.names.lookup y = some .cell ∨ scope.names.lookup y = some .free := hy
        rcases hy with hy | hy
        · exact absurd rfl (L.nc _ (PySem.mem_of_lookup hy))
        · exact lk hy
      cab := fun y c z _ => by
        have z : false = true := z
        cases z
      hd := fun _ => hd, frames := Around.frames_deeper hA, stk := .inr ⟨rfl, rfl⟩, exf := fun b z => absurd z (no b), bs := e0.bs, bsz := e0.bsz, noex := fun b _ _ => no b
      exfs := fun b z => absurd z (no b), funs := e0.funs, frf := e0.frf }
  refine { ok := ok, os := rfl, bare := I.bare, base := Un.kept kp, loc := ⟨_, hns, fun i y v e1 e2 e3 => ?_⟩, cell := fun y c e => ?_, free := e0.hok.fresh (Nat.le_refl _), freeC := fun y c e => I.freeC y c (cm e), pin := fun q hq => ?_, hok := e0.hok.kept kp, len := ?_ }
  · have e3 : Vis scope y := e3
    cases i with
    | zero =>
      have : a = y := Option.some.inj e1
      have e2 : x = v := Option.some.inj (Option.some.inj e2)
      subst this; subst e2
      refine ⟨u, rx, .inl ⟨L.own, ?_⟩⟩
      show [(a, u)].reverse.lookup a = some u
      simp [List.lookup]
    | succ i =>
      have e1 : X.N[i]? = some y := e1
      have e2 : σ[i]? = some (some v) := e2
      rcases e3 with k | k | k
      · exact absurd (List.mem_of_getElem? e1) (by rw [L.one y k]; exact na)
      · exact absurd rfl (L.nc _ (PySem.mem_of_lookup k))
      · obtain ⟨m, hn, hl⟩ := I.loc
        have hvis : Vis X.env.scope y := (L.cap _ (PySem.mem_of_lookup k) rfl).elim (fun k => .inr (.inl k)) (fun k => .inr (.inr k))
        obtain ⟨u', r, q⟩ := hl i y v e1 e2 hvis
        obtain ⟨c2, h2⟩ := lk k
        refine ⟨u', r, .inr ⟨.inr k, c2, h2, ?_⟩⟩
        have c1 := cm h2
        rcases q with ⟨k', _⟩ | ⟨_, c3, e', z⟩
        · have k' : X.env.scope.names.lookup y = some .local := k'
          rcases L.cap _ (PySem.mem_of_lookup k) rfl with k2 | k2 <;> rw [show X.env.scope.names.lookup y = _ from k2] at k' <;> cases k'
        · rw [c1] at e'
          cases e'
          exact ck z
  · obtain ⟨v, z⟩ := I.cell y c (cm e)
    exact ⟨v, ck z⟩
  · exact absurd (show q ∈ ([] : List (Addr × Obj)) ++ [] from hq) (by simp)
  · show (some x :: σ).length = (a :: X.N).length
    rw [List.length_cons, List.length_cons, I.len]
theorem lam_turn {j : Nat} {a : Str} {scope : Scope} {params : Arguments} {body : Expr} {f c' : Addr} {pm ctv : Value} {H0 : Hp} {i : Int} {k : PyData} {tb : TE} (hr : Room (j + 1) A) (hA : A.frames = some X.stack) (L : LamP X.env.scope scope a) (na : a ∉ X.N)
    (hf : (f, PySem.W.kla_obj "<lambda>" (X.env.qual ++ "<lambda>") params body scope (cloFrom X.env.cells scope.names []) pm c' ctv) ∈ pins) (hc : H0 c' = some (LamX.CodeO c' (X.env.qual ++ "<lambda>")))
    (hbind : ∀ u, bindArgs (PySem.W.kla_fn "<lambda>" (X.env.qual ++ "<lambda>") params body scope (cloFrom X.env.cells scope.names []) pm (.ref c') ctv) ⟨[u], []⟩ = pure [(a, u)])
    (hbody : ∀ (s : Shared) (H : Hp), Room j (A.deeper (lamE X scope s.heap.objs.size f c')) → PE (lamC X A s H scope f c' a) body tb)
    (ht : ∀ H1, L2.Same H0 H1 → tb (some (.int i) :: σ) H1 fun v H2 => L2.Same H1 H2 ∧ Dp X.K H2 v k) : KeyTurn X A (fun _ _ => False) (.ref f) H0 pins σ i k := by
  intro u H1 s1 more ru sm J
  have of1 := (J.pin _ (List.mem_append_right _ (List.mem_append_left _ hf))).1
  obtain ⟨⟨oc, vs, t, hoc, hdc, hvc⟩, _, _⟩ := J.hok c' _ (sm _ _ hc)
  have rc : codeAny (model X.prog X.w) A (.call (.ref f) ⟨[u], []⟩) (fun r s' => match r with | .ok (.ret v) => CE X.stack X.prog X.w H1 s1 (fun v H2 => L2.Same H1 H2 ∧ Dp X.K H2 v k) v s' | _ => False) s1 := by
    refine PySem.W.kla_callFunE hr.depth of1 rfl L.fc L.fg rfl ⟨c', oc, vs, t, rfl, hoc, hdc, hvc⟩ ?_
    rw [hbind u]
    refine wpAny_pure (wpAny_newFunctionEnv L.nc (fun y hy => by rw [List.mem_singleton.mp hy]; exact L.own) (fun h₁ hns hsb => ⟨J.nolimit.fresh _ hsb, ?_⟩) L.fk)
    show codeAny _ _ (.expr body (lamE X scope s1.heap.objs.size f c')) _ _
    have kp : ∀ b o, s1.heap.get? b = some o → h₁.get? b = some o := fun b o e => hsb.extBut b o (Nat.ne_of_lt (Heap.lt_size e)) (Heap.get?_push_of_some _ e)
    have Jn := lam_in (c' := c') (f := f) (tk := s1.toks + [(a, u)].length) J L na hr.hd hA ru hns kp
    refine PySem.W.kla_codeExpr (wpAny_mono ((hbody s1 H1 (hr.deeper _)).run [] _ _ H1 _ Jn (ht H1 sm)) (fun v s' hq => ?_) fun e s' hq => hq)
    obtain ⟨v', H', J', rv, q⟩ := hq
    exact ⟨v', H', J'.os, J'.bare, J'.base, J'.hok, rv, q⟩
  refine wpAny_call (codeAny_mono rc fun r s' hq => ?_)
  cases r with
  | error e => exact False.elim hq
  | ok fl =>
    cases fl with
    | ret v => exact J.after hq
    | next => exact False.elim hq
    | brk => exact False.elim hq
    | cont => exact False.elim hq
end
/-- what may be sorted: a range from 0 on, a list of integers -/
inductive Src (K : PySem.W.Frag) (H : Hp) : V → List Int → Prop
  | rng {r : Addr} (n : Nat) (h : H r = some (.rng 0 n)) (hn : n ≤ 2 ^ 20) : Src K H (.ref r) ((List.range n).map Int.ofNat)
  | lst {r : Addr} {is : List Int} (h : H r = some (.lst (is.map V.int))) : Src K H (.ref r) is
section
variable {X : Cx} {pins : List (Addr × Obj)} {σ : L2.St} {H H' : Hp} {s : Shared} {A : Around} {E : Value → Shared → Prop}
theorem Src.ext {K : PySem.W.Frag} {v : V} {is : List Int} (e : LamX.ExtN H H') (h : Src K H v is) : Src K H' v is := by
  cases h with
  | rng n h hn => exact .rng n (e _ _ h (fun ps z => by cases z)) hn
  | lst h => exact .lst (e _ _ h (fun ps z => by cases z))
theorem src_col {v : V} {u : Value} {is : List Int} (I : Inv X pins σ H s) (hd : A.handled = none) (h : Src X.K H v is) (ru : RelV v u) (Q' : List Value → Shared → Prop)
    (q : ∀ (its : List Value) (h' : Heap) (tk : Nat), (∀ b o, s.heap.get? b = some o → h'.get? b = some o) → Vals (is.map V.int) its → its.length ≤ sizeLine → Q' its { s with heap := h', toks := tk }) : wpAny (model X.prog X.w) A (collect u) Q' E s := by
  cases h with
  | @rng r n hr hn =>
    obtain rfl : u = Value.ref r := ru
    obtain ⟨t, u, w, e⟩ := (show ObjOk X.prog X.w H s.heap r (.rng 0 n) from I.hok r _ hr)
    refine collect_range (a := 0) (b := n) (c := 1) (n := n) hd e (small_one (by omega) (by omega) (by omega) (by omega)) (by have := rangeSize_nat 0 (n : Int); rw [this]; omega) (by omega) fun h' tk acc kp hi => q _ _ _ kp ?_ ?_
    · have hi' : ItemsOf (fun i v => ∃ t, v = .int (0 + i * 1) t) acc ((n : Int) - 0).toNat := by rw [show ((n : Int) - 0).toNat = n by omega]; exact hi
      have := vals_rg hi'
      unfold rgV at this
      rw [show ((n : Int) - 0).toNat = n by omega] at this
      rw [List.map_map]
      have e2 : (fun (i : Nat) => V.int (0 + (i : Int))) = V.int ∘ Int.ofNat := by funext i; simp
      rw [← e2]; exact this
    · rw [Array.length_toList, hi.1, sizeLine_eq]; omega
  | @lst r _ hl =>
    obtain rfl : u = Value.ref r := ru
    obtain ⟨its, rv, pl, hz⟩ := I.list (SqL.of hl)
    have lz : its.length ≤ sizeLine := by rw [← rv.length]; exact hz
    refine collect_list pl.isList (q its _ s.toks (fun b o e => ?_) rv lz) lz
    rw [Heap.get?_update_ne _ _ _ _ (Nat.ne_of_lt (Heap.lt_size e))]
    exact Heap.get?_push_of_some _ e
theorem cr_range1 : CallR X (.type "range") (fun vs H Q => ∃ n : Nat, vs = [V.int n] ∧ ∀ p, H p = none → Q (.ref p) (upd H p (.rng 0 n))) := by
  intro pins s σ H vs us Q I r h
  obtain ⟨n, rfl, q⟩ := h
  obtain ⟨u1, rfl, t, rfl⟩ := vals1 r
  exact call_range_1 ⟨.ref s.heap.objs.size, upd H s.heap.objs.size (.rng 0 n), I.laid (fun b o e => Heap.get?_push_of_some _ e) (Nat.le_refl _) ⟨_, _, _, Heap.get?_push_size _ rfl⟩, rfl, q _ (I.hok.fresh (Nat.le_refl _))⟩
theorem fp_fun {f c' : Addr} {nm q : Str} {params : Arguments} {body : Expr} {scope : Scope} {cl : List (Str × Addr)} {pm ctv : Value} (I : Inv X pins σ H s) (hf : s.heap.get? f = some (PySem.W.kla_obj nm q params body scope cl pm c' ctv)) (hn : H f = none) (hfr : f ∉ frs X.stack) :
    Inv X (pins ++ [(f, PySem.W.kla_obj nm q params body scope cl pm c' ctv)]) σ H s := I.pins_of fun p hp => (List.mem_append.mp hp).elim (fun z => I.pin p (List.mem_append_right _ z)) fun z => by
  rw [List.mem_singleton.mp z]
  refine ⟨hf, hn, fun e => ?_, fun e => hfr ?_, fun v z => by cases z⟩
  · obtain ⟨m, hns, _⟩ := I.loc
    obtain ⟨ob, es, ep, ho, hd, _⟩ := hns
    have e : f = X.env.locals := e
    rw [← e, hf] at ho
    rw [← Option.some.inj ho] at hd
    cases hd
  · rcases I.ok.stk with k | ⟨k, _⟩
    · rw [k]; exact e
    · rw [k]
      obtain ⟨y, hy, e2⟩ := List.mem_filterMap.mp e
      exact List.mem_filterMap.mpr ⟨y, List.mem_cons_of_mem _ hy, e2⟩
/-- the promise of sorted(e, key=lambda a: body) -/
def tSortL (k0 : PySem.W.Frag) (T : List (Addr × Str)) (te tb : TE) : TE := fun σ H Q => te σ H fun v H1 => ∃ is : List Int, Src k0 H1 v is ∧ LamX.Tabs T H1 ∧
  ∀ H2, LamX.ExtN H1 H2 → LamX.Tabs T H2 → ∃ k : Int → PyData, AllAlike (is.map k) ∧ Sortable (is.map k) ∧ (∀ d ∈ is.map k, d.depth ≤ 8) ∧
    (∀ i ∈ is, ∀ H3, L2.Same H2 H3 → tb (some (.int i) :: σ) H3 fun v H4 => L2.Same H3 H4 ∧ Dp k0 H4 v (k i)) ∧
    ∀ H3 p, L2.Same H2 H3 → H3 p = none → Q (.ref p) (upd H3 p (.lst ((is.mergeSort (dataLe false k)).map V.int)))
theorem pe_sortL {T : List (Addr × Str)} {c P : Addr} {j : Nat} {a : Str} {e : Expr} {te tb : TE} {params : Arguments} {body : Expr} {scope : Scope} {p lpos kpos pos : Pos} (he : PE X e te) (hg : Gl X "sorted") (hm : X.mg "sorted" = none)
    (TB : LamX.TabB X.base X.mg c P) (hcode : X.env.code = .ref c) (hmT : (P, X.env.qual ++ "<lambda>") ∈ T) (hu : ∀ p ∈ T, p.1 = P → p.2 = X.env.qual ++ "<lambda>") (hr : Room (j + 3) X.A) (L : LamP X.env.scope scope a) (na : a ∉ X.N)
    (hdef : defaultsOf params X.env = ([], [])) (hbind : ∀ (q : Str) (cl : List (Str × Addr)) (pm cv ctv u : Value), bindArgs (PySem.W.kla_fn "<lambda>" q params body scope cl pm cv ctv) ⟨[u], []⟩ = pure [(a, u)])
    (hbody : ∀ (s : Shared) (H : Hp) (f c' : Addr), Room j (X.A.in1.in1.deeper (lamE X scope s.heap.objs.size f c')) → PE (lamC X X.A.in1.in1 s H scope f c' a) body tb)
    (hv : bootBuiltins "sorted" = some (.builtin "sorted") := by rfl)
    (hs : backTo pos (starEach [e] X.env) = (false, eval e X.env) :: backTo pos (starEach [] X.env) := by rfl) (hpl : (backTo pos (starEach [e] X.env)).any (·.1) = false := by rfl) :
    PE X (.Call (.Name "sorted" p) [e] [⟨some "key", .Lambda params body scope lpos, kpos⟩] pos) (tSortL X.K T te tb) := by
  have hcap : ∀ y ∈ scope.names, y.2 = .free → X.Ok → ∃ c, X.env.cells.lookup y.1 = some c := fun y hy e ok => by
    rcases L.cap y hy e with k | k
    · exact ok.has _ (.inl k)
    · exact ok.has _ (.inr k)
  refine ⟨fun pins s σ H Q I h => ?_⟩
  refine wpAny_Call_Name_kw (ld_blt I hg hm hv ?_ (by decide) (by decide))
  refine callWith_kw ?_ hs hpl (by rfl) (by rfl)
  rw [hs]
  refine Calls.spliced_cons (thn (he.run pins s σ H _ I h) fun u s1 ⟨v, H1, I1, r1, q1⟩ => ?_)
  refine Calls.spliced_nil ?_
  obtain ⟨is, src, hT, q1⟩ := q1
  show wpAny _ _ (evalAll ((do let v ← eval (.Lambda params body scope lpos) X.env; standAt pos; pure v) :: [])) _ _ s1
  refine wpAny_evalAll_cons (wpAny_bind ?_)
  refine LamX.lam_make2 I1 TB hcode hmT hu hT hdef (fun y hy e => hcap y hy e I1.ok) fun f c' pm ctv H2 s2 I2 eN T2 hf hfn hfr hco => ?_
  refine wpAny_bind (wpAny_standAt (wpAny_pure ?_))
  refine wpAny_evalAll_nil ?_
  obtain ⟨k, k1, k2, k3, k4, k5⟩ := q1 H2 eN T2
  have I3 := fp_fun I2 hf hfn hfr
  obtain ⟨r, rfl, rfl⟩ : ∃ r, v = .ref r ∧ u = .ref r := by
    cases src with
    | rng n h hn => exact ⟨_, rfl, r1⟩
    | lst h => exact ⟨_, rfl, r1⟩
  show wpAny (model X.prog X.w) X.A (call (.builtin "sorted") [.ref r] [(Str.ofString "key", .ref f)]) _ _ s2
  have hr1 : Room (j + 1) X.A.in1.in1 := (hr.in1).in1
  refine wpAny_mono (sorted_key (k := k) I3 (fun Q' q => src_col (A := X.A.in1) I3 hr.in1.hd (src.ext eN) rfl Q' q) k1 k2 (fun d hd => by have := k3 d hd; have := hr.un; omega) (fun i hi => ?_) fun H' p sm np => k5 H' p sm np) (fun u s' hq => ?_) fun _ _ z => z
  · refine lam_turn (j := j) (A := X.A.in1.in1) hr1 I3.ok.frames L na (List.mem_append_right _ (List.mem_singleton.mpr rfl)) hco (fun u => hbind _ _ _ _ _ u) (fun s H hr => hbody s H f c' hr) (k4 i hi)
  · obtain ⟨v, H', J, rv, q⟩ := hq
    exact ⟨v, H', J.unpinned, rv, q⟩
end
end SrK

namespace M12
/-- a span: start, end, need -/
abbrev Sn := Int × Int × Int
def ld : List Sn → Int → Int
  | [], _ => 0
  | (s, e, d) :: r, m => (if s ≤ m ∧ m < e then d else 0) + ld r m
def net : List Sn → Int → Int
  | [], _ => 0
  | (s, e, d) :: r, m => (if s = m then d else 0) - (if e = m then d else 0) + net r m
def Pos (l : List Sn) : Prop := ∀ x ∈ l, x.1 < x.2.1 ∧ 0 < x.2.2
theorem Pos.tl {x : Sn} {l : List Sn} (h : Pos (x :: l)) : Pos l := fun y hy => h y (List.mem_cons_of_mem _ hy)
theorem ld_step : ∀ {l : List Sn}, Pos l → ∀ m, ld l m = ld l (m - 1) + net l m
  | [], _, m => rfl
  | (s, e, d) :: r, h, m => by
    have h1 := h (s, e, d) (List.mem_cons_self ..)
    have := ld_step h.tl m
    simp only [ld, net] at *
    rw [this]
    repeat' split
    all_goals omega
theorem net_zero : ∀ {l : List Sn} {m : Int}, (∀ x ∈ l, x.1 ≠ m ∧ x.2.1 ≠ m) → net l m = 0
  | [], _, _ => rfl
  | (s, e, d) :: r, m, h => by
    have h1 := h (s, e, d) (List.mem_cons_self ..)
    have := net_zero (l := r) (m := m) fun y hy => h y (List.mem_cons_of_mem _ hy)
    simp only [net, this]
    rw [if_neg h1.1, if_neg h1.2]; rfl
theorem ld_const {l : List Sn} (p : Pos l) : ∀ (n : Nat) {a b : Int}, b = a + n → (∀ x, a < x → x ≤ b → net l x = 0) → ld l b = ld l a
  | 0, a, b, e, _ => by rw [show b = a by omega]
  | n + 1, a, b, e, h => by
    have h1 := ld_step p b
    rw [h b (by omega) (by omega)] at h1
    have := ld_const p n (a := a) (b := b - 1) (by omega) fun x h2 h3 => h x h2 (by omega)
    omega
theorem ld_low : ∀ {l : List Sn} {m : Int}, (∀ x ∈ l, m < x.1) → ld l m = 0
  | [], _, _ => rfl
  | (s, e, d) :: r, m, h => by
    have h1 : m < s := h (s, e, d) (List.mem_cons_self ..)
    simp only [ld, ld_low (l := r) (m := m) fun y hy => h y (List.mem_cons_of_mem _ hy)]
    rw [if_neg (by omega)]; rfl
theorem ld_nn : ∀ {l : List Sn}, Pos l → ∀ m, 0 ≤ ld l m
  | [], _, _ => Int.le_refl _
  | (s, e, d) :: r, h, m => by
    have h1 := h (s, e, d) (List.mem_cons_self ..)
    have := ld_nn h.tl m
    simp only [ld] at *
    split <;> omega
theorem lowest : ∀ (l : List Sn), ∃ lo : Int, ∀ x ∈ l, lo < x.1
  | [] => ⟨0, fun _ h => by cases h⟩
  | (s, e, d) :: r => by
    obtain ⟨lo, h⟩ := lowest r
    refine ⟨min lo (s - 1), fun x hx => ?_⟩
    rcases List.mem_cons.mp hx with rfl | hx
    · show min lo (s - 1) < s
      omega
    · have := h x hx
      omega
/-- every moment has a change behind it with the same load, or no load -/
theorem cover {l : List Sn} (p : Pos l) (m : Int) : ld l m = 0 ∨ ∃ c, c ≤ m ∧ ld l c = ld l m ∧ net l c ≠ 0 := by
  obtain ⟨lo, h⟩ := lowest l
  have : ∀ (n : Nat) (m : Int), m ≤ lo + n → ld l m = 0 ∨ ∃ c, c ≤ m ∧ ld l c = ld l m ∧ net l c ≠ 0 := by
    intro n
    induction n with
    | zero => exact fun m hm => .inl (ld_low fun x hx => by have := h x hx; omega)
    | succ n ih =>
      intro m hm
      by_cases e : net l m = 0
      · have h1 := ld_step p m
        rw [e] at h1
        rcases ih (m - 1) (by omega) with g | ⟨c, g1, g2, g3⟩
        · exact .inl (by omega)
        · exact .inr ⟨c, by omega, by omega, g3⟩
      · exact .inr ⟨m, Int.le_refl _, rfl, e⟩
  exact this (m - lo).toNat m (by omega)
/-- the first moment with the greatest load -/
structure Pk (l : List Sn) (m M : Int) : Prop where
  at_ : ld l m = M
  all : ∀ x, ld l x ≤ M
  fst : ∀ x, x < m → ld l x < M
theorem Pk.one {l : List Sn} {m M m' M' : Int} (h : Pk l m M) (h' : Pk l m' M') : m = m' ∧ M = M' := by
  have e : M = M' := by
    have h1 := h.all m'; have h2 := h'.all m
    rw [h'.at_] at h1; rw [h.at_] at h2; omega
  subst e
  refine ⟨?_, rfl⟩
  by_cases g : m < m'
  · have := h'.fst m g; rw [h.at_] at this; omega
  · by_cases g2 : m' < m
    · have := h.fst m' g2; rw [h'.at_] at this; omega
    · omega
/-- the scan: the first with strictly more -/
def scan (f : Int → Int) : List Int → Int × Int → Int × Int
  | [], b => b
  | m :: ms, b => scan f ms (if f m > b.2 then (m, f m) else b)
theorem scan_spec {f : Int → Int} : ∀ (ms : List Int) (b : Int × Int), ms.Pairwise (· < ·) →
    (scan f ms b = b ∧ (∀ m ∈ ms, f m ≤ b.2)) ∨ ((scan f ms b).1 ∈ ms ∧ f (scan f ms b).1 = (scan f ms b).2 ∧ b.2 < (scan f ms b).2 ∧ (∀ m ∈ ms, f m ≤ (scan f ms b).2) ∧ (∀ m ∈ ms, m < (scan f ms b).1 → f m < (scan f ms b).2))
  | [], b, _ => .inl ⟨rfl, fun _ h => by cases h⟩
  | m :: ms, b, h => by
    obtain ⟨h1, h2⟩ := List.pairwise_cons.mp h
    simp only [scan]
    by_cases g : f m > b.2
    · rw [if_pos g]
      rcases scan_spec ms (m, f m) h2 with ⟨e, k⟩ | ⟨k1, k2, k3, k4, k5⟩
      · refine .inr ?_
        rw [e]
        refine ⟨List.mem_cons_self .., rfl, g, ?_, ?_⟩
        · intro x hx
          rcases List.mem_cons.mp hx with rfl | hx
          · exact Int.le_refl _
          · exact k x hx
        · intro x hx hl
          rcases List.mem_cons.mp hx with rfl | hx
          · exact absurd hl (Int.lt_irrefl _)
          · have h3 := h1 x hx
            have h4 : x < m := hl
            omega
      · refine .inr ⟨List.mem_cons_of_mem _ k1, k2, Int.lt_trans g k3, ?_, ?_⟩
        · intro x hx
          rcases List.mem_cons.mp hx with rfl | hx
          · exact Int.le_of_lt k3
          · exact k4 x hx
        · intro x hx hl
          rcases List.mem_cons.mp hx with rfl | hx
          · exact k3
          · exact k5 x hx hl
    · rw [if_neg g]
      rcases scan_spec ms b h2 with ⟨e, k⟩ | ⟨k1, k2, k3, k4, k5⟩
      · refine .inl ⟨e, ?_⟩
        intro x hx
        rcases List.mem_cons.mp hx with rfl | hx
        · omega
        · exact k x hx
      · refine .inr ⟨List.mem_cons_of_mem _ k1, k2, k3, ?_, ?_⟩
        · intro x hx
          rcases List.mem_cons.mp hx with rfl | hx
          · omega
          · exact k4 x hx
        · intro x hx hl
          rcases List.mem_cons.mp hx with rfl | hx
          · omega
          · exact k5 x hx hl
/-- a scan over all changes finds the peak -/
theorem scan_pk {l : List Sn} (p : Pos l) (ne : l ≠ []) {ms : List Int} (s : ms.Pairwise (· < ·)) (c : ∀ m, net l m ≠ 0 → m ∈ ms) : Pk l (scan (ld l) ms (0, 0)).1 (scan (ld l) ms (0, 0)).2 := by
  have some1 : ∃ m, 0 < ld l m := by
    cases l with
    | nil => exact absurd rfl ne
    | cons x r =>
      obtain ⟨s, e, d⟩ := x
      have h1 := p (s, e, d) (List.mem_cons_self ..)
      have h2 := ld_nn p.tl s
      refine ⟨s, ?_⟩
      simp only [ld]
      rw [if_pos ⟨Int.le_refl _, h1.1⟩]
      have h3 : 0 < d := h1.2
      omega
  rcases scan_spec (f := ld l) ms (0, 0) s with ⟨e, k⟩ | ⟨k1, k2, k3, k4, k5⟩
  · obtain ⟨m, hm⟩ := some1
    rcases cover p m with g | ⟨x, g1, g2, g3⟩
    · omega
    · have h4 : ld l x ≤ 0 := k x (c x g3)
      omega
  · refine ⟨k2, fun x => ?_, fun x hx => ?_⟩
    · rcases cover p x with g | ⟨y, g1, g2, g3⟩
      · rw [g]; exact Int.le_of_lt k3
      · rw [← g2]; exact k4 y (c y g3)
    · rcases cover p x with g | ⟨y, g1, g2, g3⟩
      · rw [g]; exact k3
      · rw [← g2]; exact k5 y (c y g3) (by omega)
/-- all loads are within a size if those at the changes are -/
theorem all_le {l : List Sn} (p : Pos l) {z : Int} (hz : 0 ≤ z) {ms : List Int} (c : ∀ m, net l m ≠ 0 → m ∈ ms) : (∀ m ∈ ms, ld l m ≤ z) ↔ ∀ m, ld l m ≤ z := by
  refine ⟨fun h m => ?_, fun h m _ => h m⟩
  rcases cover p m with g | ⟨y, g1, g2, g3⟩
  · omega
  · rw [← g2]; exact h y (c y g3)
/-- the load between two moments -/
def cov (s e f t : Int) : Int := max 0 (min e t - max s f)
def lb : List Sn → Int → Int → Int
  | [], _, _ => 0
  | (s, e, d) :: r, f, t => d * cov s e f t + lb r f t
theorem lb_step : ∀ {l : List Sn}, Pos l → ∀ {f t : Int}, f ≤ t → lb l f (t + 1) = lb l f t + ld l t
  | [], _, _, _, _ => rfl
  | (s, e, d) :: r, h, f, t, hf => by
    have h1 : s < e ∧ 0 < d := h (s, e, d) (List.mem_cons_self ..)
    have := lb_step h.tl (f := f) (t := t) hf
    simp only [lb, ld, this]
    have g : cov s e f (t + 1) = cov s e f t + (if s ≤ t ∧ t < e then 1 else 0) := by
      unfold cov
      split <;> omega
    rw [g, Int.mul_add]
    have : d * (if s ≤ t ∧ t < e then 1 else 0) = if s ≤ t ∧ t < e then d else 0 := by split <;> simp
    rw [this]; omega
theorem lb_nil : ∀ {l : List Sn} {f t : Int}, Pos l → t ≤ f → lb l f t = 0
  | [], _, _, _, _ => rfl
  | (s, e, d) :: r, f, t, h, hf => by
    have h1 : s < e ∧ 0 < d := h (s, e, d) (List.mem_cons_self ..)
    simp only [lb, lb_nil h.tl hf]
    have : cov s e f t = 0 := by unfold cov; omega
    rw [this]; simp
/-- moments from the first on -/
def ups (f : Int) : Nat → List Int
  | 0 => []
  | n + 1 => ups f n ++ [f + n]
theorem lb_sum {l : List Sn} (p : Pos l) (f : Int) : ∀ n : Nat, lb l f (f + n) = ((ups f n).map (ld l)).foldl (· + ·) 0
  | 0 => by rw [lb_nil p (by omega)]; rfl
  | n + 1 => by
    have h := lb_sum p f n
    have h2 := lb_step p (f := f) (t := f + n) (by omega)
    simp only [ups, List.map_append, List.map_cons, List.map_nil, List.foldl_append, List.foldl_cons, List.foldl_nil]
    rw [← h, ← h2, show f + ((n + 1 : Nat) : Int) = f + n + 1 by omega]
theorem lb_le {l : List Sn} (p : Pos l) {z : Int} (h : ∀ m, ld l m ≤ z) (f : Int) : ∀ n : Nat, lb l f (f + n) ≤ z * n
  | 0 => by rw [lb_nil p (by omega)]; simp
  | n + 1 => by
    have h1 := lb_le p h f n
    have h2 := lb_step p (f := f) (t := f + n) (by omega)
    have h3 := h (f + n)
    have e : f + ((n + 1 : Nat) : Int) = f + n + 1 := by omega
    rw [e, h2]
    have : z * ((n + 1 : Nat) : Int) = z * n + z := by rw [Int.natCast_add, Int.mul_add]; simp
    omega
def whole : List Sn → Int
  | [] => 0
  | (s, e, d) :: r => (e - s) * d + whole r
theorem lb_whole : ∀ {l : List Sn} {f t : Int}, Pos l → (∀ x ∈ l, f ≤ x.1 ∧ x.2.1 ≤ t) → lb l f t = whole l
  | [], _, _, _, _ => rfl
  | (s, e, d) :: r, f, t, h, g => by
    have h1 : s < e ∧ 0 < d := h (s, e, d) (List.mem_cons_self ..)
    have g1 : f ≤ s ∧ e ≤ t := g (s, e, d) (List.mem_cons_self ..)
    simp only [lb, whole, lb_whole h.tl fun x hx => g x (List.mem_cons_of_mem _ hx)]
    have : cov s e f t = e - s := by unfold cov; omega
    rw [this, Int.mul_comm]
theorem mem_change : ∀ {l : List Sn} {m : Int}, net l m ≠ 0 → ∃ x ∈ l, x.1 = m ∨ x.2.1 = m
  | [], m, h => absurd rfl h
  | (s, e, d) :: r, m, h => by
    by_cases a : s = m
    · exact ⟨_, List.mem_cons_self .., .inl a⟩
    · by_cases b : e = m
      · exact ⟨_, List.mem_cons_self .., .inr b⟩
      · simp only [net, if_neg a, if_neg b] at h
        obtain ⟨x, hx, g⟩ := mem_change (l := r) (m := m) (by omega)
        exact ⟨x, List.mem_cons_of_mem _ hx, g⟩
end M12

namespace M12
open PySem PySem.Spec PyProof.Rows L2 SX Own Gd
open C8 (Cal pe_c pe_gc pe_mk Mak pss_cut)
def topS (i : Nat) : Stmt := PySem.Challenge.pw_paperbest_k12_whole_hours_and_seats.main.body.getD i (.Pass ⟨0, 0, 0, 0⟩)
def inS (i j : Nat) : Stmt := match topS i with
  | .ClassDef _ _ _ b _ _ _ _ _ _ _ => b.getD j (.Pass ⟨0, 0, 0, 0⟩)
  | s => s
/-- what the text's top has: the dict of keepers at aT -/
structure Txt (K : PySem.W.Frag) (mg : Str → Option Value) (w : World) (aT : Addr) (es : Array DictEntry) (n : Nat) : Prop where
  b_len : mg "len" = none
  b_range : mg "range" = none
  b_int : mg "int" = none
  b_abs : mg "abs" = none
  b_all : mg "all" = none
  b_sum : mg "sum" = none
  b_repr : mg "repr" = none
  b_tuple : mg "tuple" = none
  b_bool : mg "bool" = none
  b_list : mg "list" = none
  b_set : mg "set" = none
  b_any : mg "any" = none
  b_enumerate : mg "enumerate" = none
  b_isinstance : mg "isinstance" = none
  b_min : mg "min" = none
  b_max : mg "max" = none
  b_sorted : mg "sorted" = none
  b_ValueError : mg "ValueError" = none
  c_MOST_SEATS : ∃ u, mg "MOST_SEATS" = some u ∧ RelV (.int 1000) u
  c_KEEPERS : ∃ u, mg "KEEPERS" = some u ∧ RelV (.ref aT) u
  kd : KDict K w aT es n
/-! ### integers in tuples -/
def tI (a : List Int) : HO := .tup (a.map V.int)
def LV (H : Hp) (v : V) (a : List Int) : Prop := ∃ q, v = .ref q ∧ H q = some (tI a)
theorem LV.same {H H' : Hp} {v : V} {a : List Int} (h : LV H v a) (s : Same H H') : LV H' v a := by
  obtain ⟨q, e, f⟩ := h
  exact ⟨q, e, s _ _ f⟩
theorem at_map {α : Type} {f : α → V} {a : List α} {i : Nat} {x : V} (h : (a.map f)[i]? = some x) : ∃ c, a[i]? = some c ∧ x = f c := by
  rw [List.getElem?_map] at h
  obtain ⟨c, hc, e⟩ := Option.map_eq_some_iff.mp h
  exact ⟨c, hc, e.symm⟩
theorem small1000 {n : Nat} (h : n < 10000) : n < sizeLine := by rw [sizeLine_eq]; omega
theorem small1001 {n : Nat} (h : n ≤ 10000) : n ≤ sizeLine := by rw [sizeLine_eq]; omega
theorem take_one {α : Type} {a : List α} {i : Nat} {c : α} (h : a[i]? = some c) : a.take (i + 1) = a.take i ++ [c] := by rw [List.take_add_one, h]; rfl
theorem len2 {a b : V} : ([a, b] : List V).length ≤ sizeLine := by rw [sizeLine_eq]; show 2 ≤ _; omega
theorem len3 {a b c : V} : ([a, b, c] : List V).length ≤ sizeLine := by rw [sizeLine_eq]; show 3 ≤ _; omega
/-! ### tuples stay while lists change -/
def TK (H H' : Hp) : Prop := ∀ a xs, H a = some (.tup xs) → H' a = some (.tup xs)
theorem TK.refl (H : Hp) : TK H H := fun _ _ e => e
theorem TK.of {H H' : Hp} (s : Same H H') : TK H H' := fun a xs e => s _ _ e
theorem TK.put {H : Hp} {l : Addr} {xs : List V} {o : HO} (e : H l = some (.lst xs)) : TK H (upd H l o) := fun a ys z => by
  rw [upd_ne (fun h => by rw [h, e] at z; cases z)]; exact z
theorem TK.trans {H H1 H2 : Hp} (x : TK H H1) (y : TK H1 H2) : TK H H2 := fun a xs e => y _ _ (x _ _ e)
theorem TK.kp {H H' : Hp} {h q : Addr} (k : Kpt h q H H') (a : HpAt H h q) : TK H H' := fun b xs e => by
  obtain ⟨cs, st, a⟩ := a
  exact k _ _ e (fun z => by rw [z, a.hh] at e; cases e) (fun z => by rw [z, a.hq] at e; cases e)
theorem LV.tk {H H' : Hp} {v : V} {a : List Int} (h : LV H v a) (s : TK H H') : LV H' v a := by
  obtain ⟨p, e, hp⟩ := h
  exact ⟨p, e, s _ _ hp⟩
inductive All2 {α : Type} (R : V → α → Prop) : List V → List α → Prop
  | nil : All2 R [] []
  | cons {v : V} {vs : List V} {a : α} {as : List α} : R v a → All2 R vs as → All2 R (v :: vs) (a :: as)
theorem All2.mono {α : Type} {R R' : V → α → Prop} (h : ∀ v a, R v a → R' v a) : ∀ {vs : List V} {as : List α}, All2 R vs as → All2 R' vs as
  | _, _, .nil => .nil
  | _, _, .cons g t => .cons (h _ _ g) (t.mono h)
theorem All2.len {α : Type} {R : V → α → Prop} : ∀ {vs : List V} {as : List α}, All2 R vs as → vs.length = as.length
  | _, _, .nil => rfl
  | _, _, .cons _ t => congrArg (· + 1) t.len
theorem All2.app {α : Type} {R : V → α → Prop} {v : V} {a : α} : ∀ {vs : List V} {as : List α}, All2 R vs as → R v a → All2 R (vs ++ [v]) (as ++ [a])
  | _, _, .nil, h => .cons h .nil
  | _, _, .cons g t, h => .cons g (t.app h)
theorem All2.at_ {α : Type} {R : V → α → Prop} : ∀ {vs : List V} {as : List α} {i : Nat} {v : V}, All2 R vs as → vs[i]? = some v → ∃ a, as[i]? = some a ∧ R v a
  | _, _, 0, _, .cons h t, e => by
    cases e
    exact ⟨_, rfl, h⟩
  | _, _, i + 1, _, .cons h t, e => by
    obtain ⟨r, e1, e2⟩ := t.at_ (i := i) (by simpa using e)
    exact ⟨r, by simpa using e1, e2⟩
theorem All2.at2 {α : Type} {R : V → α → Prop} {vs : List V} {as : List α} {i : Nat} {a : α} (h : All2 R vs as) (e : as[i]? = some a) : ∃ v, vs[i]? = some v ∧ R v a := by
  have l := h.len
  have hi : i < vs.length := by rw [l]; exact (List.getElem?_eq_some_iff.mp e).1
  obtain ⟨a', e', g⟩ := h.at_ (List.getElem?_eq_getElem hi)
  rw [e] at e'
  cases e'
  exact ⟨_, List.getElem?_eq_getElem hi, g⟩
/-! ### jobs, wishes, spans -/
abbrev Jb := Nat × Int × Int
inductive Wh
  | bench (js : List (Nat × Int))
  | room (js : List Jb) (z : Int)
def Wh.jobs : Wh → List Jb
  | .bench js => js.map fun j => (j.1, j.2, 1)
  | .room js _ => js
def Wh.size : Wh → Int
  | .bench _ => 1
  | .room _ z => z
def T3 (H : Hp) (v : V) (a b c : Int) : Prop := ∃ p, v = .ref p ∧ H p = some (.tup [.int a, .int b, .int c])
def P2 (H : Hp) (v : V) (a : Int × Int) : Prop := ∃ p, v = .ref p ∧ H p = some (.tup [.int a.1, .int a.2])
def JV (H : Hp) (v : V) (j : Jb) : Prop := T3 H v j.1 j.2.1 j.2.2
def BV (H : Hp) (v : V) (j : Nat × Int) : Prop := P2 H v (j.1, j.2)
def SnV (H : Hp) (v : V) (s : Sn) : Prop := T3 H v s.1 s.2.1 s.2.2
theorem T3.tk {H H' : Hp} {v : V} {a b c : Int} (h : T3 H v a b c) (s : TK H H') : T3 H' v a b c := by
  obtain ⟨p, e, f⟩ := h
  exact ⟨p, e, s _ _ f⟩
theorem P2.tk {H H' : Hp} {v : V} {a : Int × Int} (h : P2 H v a) (s : TK H H') : P2 H' v a := by
  obtain ⟨p, e, f⟩ := h
  exact ⟨p, e, s _ _ f⟩
theorem jsTk {H H' : Hp} (s : TK H H') {us : List V} {js : List Jb} (h : All2 (JV H) us js) : All2 (JV H') us js := h.mono fun _ _ g => T3.tk g s
theorem bsTk {H H' : Hp} (s : TK H H') {us : List V} {js : List (Nat × Int)} (h : All2 (BV H) us js) : All2 (BV H') us js := h.mono fun _ _ g => P2.tk g s
theorem snTk {H H' : Hp} (s : TK H H') {us : List V} {js : List Sn} (h : All2 (SnV H) us js) : All2 (SnV H') us js := h.mono fun _ _ g => T3.tk g s
theorem p2Tk {H H' : Hp} (s : TK H H') {us : List V} {js : List (Int × Int)} (h : All2 (P2 H) us js) : All2 (P2 H') us js := h.mono fun _ _ g => P2.tk g s
def JsV (H : Hp) (v : V) (js : List Jb) : Prop := ∃ p us, v = .ref p ∧ H p = some (.tup us) ∧ All2 (JV H) us js
theorem JsV.tk {H H' : Hp} {v : V} {js : List Jb} (h : JsV H v js) (s : TK H H') : JsV H' v js := by
  obtain ⟨p, us, e, f, g⟩ := h
  exact ⟨p, us, e, s _ _ f, jsTk s g⟩
def WhV (H : Hp) (v : V) : Wh → Prop
  | .bench js => ∃ p q us, v = .ref p ∧ H p = some (.tup [.str "bench", .ref q]) ∧ H q = some (.tup us) ∧ All2 (BV H) us js
  | .room js z => ∃ p q us, v = .ref p ∧ H p = some (.tup [.str "room", .ref q, .int z]) ∧ H q = some (.tup us) ∧ All2 (JV H) us js
theorem WhV.tk {H H' : Hp} {v : V} {x : Wh} (h : WhV H v x) (s : TK H H') : WhV H' v x := by
  cases x with
  | bench js =>
    obtain ⟨p, q, us, e, f, g, a⟩ := h
    exact ⟨p, q, us, e, s _ _ f, s _ _ g, bsTk s a⟩
  | room js z =>
    obtain ⟨p, q, us, e, f, g, a⟩ := h
    exact ⟨p, q, us, e, s _ _ f, s _ _ g, jsTk s a⟩
structure WOk (n : Nat) (x : Wh) : Prop where
  pl : ∀ j ∈ x.jobs, j.1 < n
  ln : ∀ j ∈ x.jobs, 1 ≤ j.2.1
  nd : ∀ j ∈ x.jobs, 1 ≤ j.2.2
  nb : ∀ j ∈ x.jobs, j.2.2 ≤ 1000000000
  lb : ∀ j ∈ x.jobs, j.2.1 ≤ 1000000000
  few : x.jobs.length ≤ 20
  some : x.jobs ≠ []
def sps (js : List Jb) (pt : List Int) : List Sn := js.map fun j => (pt.getD j.1 0, pt.getD j.1 0 + j.2.1, j.2.2)
theorem WOk.pos {n : Nat} {x : Wh} (h : WOk n x) (pt : List Int) : Pos (sps x.jobs pt) := fun y hy => by
  obtain ⟨j, hj, rfl⟩ := List.mem_map.mp hy
  have a := h.ln j hj; have b := h.nd j hj
  exact ⟨by show pt.getD j.1 0 < pt.getD j.1 0 + j.2.1; omega, by show 0 < j.2.2; omega⟩
theorem WOk.ne {n : Nat} {x : Wh} (h : WOk n x) (pt : List Int) : sps x.jobs pt ≠ [] := fun e => h.some (List.map_eq_nil_iff.mp e)
theorem atI_nat {i : Nat} {xs : List V} {x : V} (h : xs[i]? = some x) : atI xs (i : Int) = some x := by
  have hi : i < xs.length := (List.getElem?_eq_some_iff.mp h).1
  unfold atI ixN
  rw [if_pos (by omega), if_pos (by omega)]
  simpa using h
theorem ptAt {pt : List Int} {k : Nat} (h : k < pt.length) : (pt.map V.int)[k]? = some (.int (pt.getD k 0)) := by
  rw [List.getElem?_map, List.getElem?_eq_getElem h, List.getD_eq_getElem?_getD, List.getElem?_eq_getElem h]; rfl
section
variable {P : Program} {w : World} {K : PySem.W.Frag} {mg : Str → Option Value} {base : Heap} {aT : Addr} {es : Array DictEntry} {nn : Nat}
abbrev s_size_of : Stmt := topS 6
abbrev n_size_of : List Str := ["wish"]
theorem sc_size_of : FnScope n_size_of ["wish"] (defScope s_size_of) := ⟨rfl, rfl, rfl, by decide +kernel, rfl, by decide +kernel, by decide +kernel⟩
def spSize : Sp := fun vs H Q _ => ∃ (v : V) (x : Wh), vs = [v] ∧ WhV H v x ∧ Q (.int x.size) H
theorem ok_size_of {f : Addr} {fd : FuncData} (F : Fun K "size_of" "size_of" s_size_of f fd) : FnOk P w K mg base CX0 1 f fd ["wish"] spSize := by
  refine F.ok sc_size_of (fun vs H Q E h => ?_) (fun cdv A outer s H vs Q E hr h => ?_)
  · obtain ⟨v, x, rfl, _⟩ := h
    rfl
  · obtain ⟨v, x, rfl, h, q⟩ := h
    refine ⟨_, (pss_one (ps_ret (pe_ifExp (pt_cmpR op_eq (pe_ix ix_tup (pv 0) pe_int (fun _ _ => rfl)) pe_str (nomark _)) pe_int (pe_ix ix_tup (pv 0) pe_int (fun _ _ => rfl))))), ?_⟩
    cases x with
    | bench js =>
      obtain ⟨p, u, us, rfl, hp, _⟩ := h
      exact ⟨_, rfl, p, _, 0, _, rfl, rfl, sq_tup hp, rfl, rfl, _, rfl, iteT q⟩
    | room js z =>
      obtain ⟨p, u, us, rfl, hp, _⟩ := h
      exact ⟨_, rfl, p, _, 0, _, rfl, rfl, sq_tup hp, rfl, rfl, _, rfl, iteF ⟨_, rfl, p, _, 2, _, rfl, rfl, sq_tup hp, rfl, q⟩⟩
abbrev s_jobs_of : Stmt := topS 5
abbrev n_jobs_of : List Str := ["wish", "place", "length"]
theorem sc_jobs_of : FnScope n_jobs_of ["wish"] (defScope s_jobs_of) := ⟨rfl, rfl, rfl, by decide +kernel, rfl, by decide +kernel, by decide +kernel⟩
def spJobsOf : Sp := fun vs H Q _ => ∃ (v : V) (x : Wh), vs = [v] ∧ WhV H v x ∧ x.jobs.length ≤ 100 ∧ ∀ p us H', Same H H' → H' p = some (.tup us) → All2 (JV H') us x.jobs → Q (.ref p) H'
theorem ok_jobs_of {f : Addr} {fd : FuncData} (F : Fun K "jobs_of" "jobs_of" s_jobs_of f fd) (T : Txt K mg w aT es nn) : FnOk P w K mg base CX0 1 f fd ["wish"] spJobsOf := by
  refine F.ok sc_jobs_of (fun vs H Q E h => ?_) (fun cdv A outer s0 H vs Q E hr h => ?_)
  · obtain ⟨v, x, rfl, _⟩ := h
    rfl
  · obtain ⟨v, x, rfl, h, few, q⟩ := h
    refine ⟨_, (pss_cons (ps_if (pt_cmpR op_eq (pe_ix ix_tup (pv 0) pe_int (fun _ _ => rfl)) pe_str (nomark _)) (pss_one (ps_ret (pe_callTy call_tuple_of (by rfl) T.b_tuple (by decide +kernel) (pa_cons (pe_lc (own := [("place", 1), ("length", 2)]) (g := (gTup K 2 (gCons (gName 1) (gCons (gName 2) gNil)))) rfl sc_jobs_of.nd (pi_tup (pe_ix ix_tup (pv 0) pe_int (fun _ _ => rfl))) (blkOk_by (N := n_jobs_of) (sc := defScope s_jobs_of) (by decide +kernel)) (fun _ _ _ _ _ => (pg_tup rfl (pgs_cons (pg_name (i := 1) sc_jobs_of.nd rfl (.inl rfl)) (pgs_cons (pg_name (i := 2) sc_jobs_of.nd rfl (.inl rfl)) pgs_nil)))) (fun _ _ _ _ _ => pts_nil) (fun _ _ _ _ _ => (pe_tup (pa_cons (pv 1) (pa_cons (pv 2) (pa_cons pe_int pa_nil)))))) pa_nil)))) pss_nil)
      (pss_one (ps_ret (pe_ix ix_tup (pv 0) pe_int (fun _ _ => rfl))))), ?_⟩
    cases x with
    | room js z =>
      obtain ⟨p, u, us, rfl, hp, hu, a⟩ := h
      exact ⟨_, rfl, p, _, 0, _, rfl, rfl, sq_tup hp, rfl, rfl, _, rfl, iteF ⟨_, rfl, p, _, 1, _, rfl, rfl, sq_tup hp, rfl, q _ _ _ (Same.refl _) hu a⟩⟩
    | bench js =>
      obtain ⟨p, pj, us, rfl, hp, hpj, lv⟩ := h
      have few' : js.length ≤ 100 := by rw [show js.length = (Wh.bench js).jobs.length from (List.length_map _).symm]; exact few
      refine ⟨_, rfl, p, _, 0, _, rfl, rfl, sq_tup hp, rfl, rfl, _, rfl, iteT ?_⟩
      refine ⟨_, rfl, p, _, 1, _, rfl, rfl, sq_tup hp, rfl, pj, rfl, ⟨_, sq_tup hpj⟩, fun D nD => ?_⟩
      refine lc_tup (K := K) (a := pj) (xs := us) (fun i H' => ∃ vs, H' D = some (.lst vs) ∧ All2 (JV H') vs ((js.take i).map fun j => (j.1, j.2, 1)) ∧ Same H H') ⟨[], upd_same, .nil, same_upd nD⟩ (fun i H' _ h => by obtain ⟨_, _, _, sm⟩ := h; exact sq_tup (sm _ _ hpj)) ?_ ?_
      · rintro i x H2 hx ⟨vs, hD, fv, sm⟩
        obtain ⟨j, hj, pj', rfl, hpj'⟩ := lv.at_ hx
        have li : i < js.length := (List.getElem?_eq_some_iff.mp hj).1
        refine ⟨pj', _, rfl, sq_tup (sm _ _ hpj'), rfl, _, _, rfl, _, _, rfl, rfl, rfl, ?_⟩
        refine ⟨_, rfl, _, rfl, len3, fun t nt => ?_⟩
        have k3 := same_upd (o := .tup [.int j.1, .int j.2, .int 1]) nt
        have et : upd H2 t (.tup [.int j.1, .int j.2, .int 1]) t = some (.tup [.int j.1, .int j.2, .int 1]) := upd_same
        have hD3 := k3 _ _ hD
        generalize upd H2 t (.tup [.int j.1, .int j.2, .int 1]) = H3 at *
        refine ⟨_, hD3, (by rw [fv.len, List.length_map, List.length_take]; exact small1000 (by omega)), vs ++ [.ref t], upd_same, ?_, same_at (sm.trans k3) nD⟩
        rw [take_one hj, List.map_append]
        exact jsTk (TK.put hD3) ((jsTk (TK.of k3) fv).app ⟨t, rfl, et⟩)
      · rintro H2 ⟨vs, hD, fv, sm⟩
        rw [lv.len, List.take_length] at fv
        refine ⟨D, _, rfl, .inl ⟨sq_lst hD, fun t nt => ?_⟩⟩
        have k3 := same_upd (o := .tup vs) nt
        exact q t vs _ (sm.trans k3) upd_same (jsTk (TK.of k3) fv)
abbrev s_job_spans : Stmt := topS 8
abbrev n_job_spans : List Str := ["wish", "point", "place", "length", "need"]
theorem sc_job_spans : FnScope n_job_spans ["wish", "point"] (defScope s_job_spans) := ⟨rfl, rfl, rfl, by decide +kernel, rfl, by decide +kernel, by decide +kernel⟩
def spSpans : Sp := fun vs H Q _ => ∃ (v pv : V) (x : Wh) (pt : List Int), vs = [v, pv] ∧ WhV H v x ∧ LV H pv pt ∧ WOk pt.length x ∧ ∀ p us H', Same H H' → H p = none → H' p = some (.lst us) → All2 (SnV H') us (sps x.jobs pt) → Q (.ref p) H'
theorem ok_job_spans {f : Addr} {fd : FuncData} (F : Fun K "job_spans" "job_spans" s_job_spans f fd) (T : Txt K mg w aT es nn) (c_jobs_of : Cal P w K mg base 1 "jobs_of" spJobsOf []) : FnOk P w K mg base CX0 2 f fd ["wish", "point"] spSpans := by
  refine F.ok sc_job_spans (fun vs H Q E h => ?_) (fun cdv A outer s0 H vs Q E hr h => ?_)
  · obtain ⟨v, pv, x, pt, rfl, _⟩ := h
    rfl
  · obtain ⟨v, pv, x, pt, rfl, h, ⟨pp, rfl, hpp⟩, ok, q⟩ := h
    refine ⟨_, (pss_one (ps_ret (pe_lc (own := [("place", 2), ("length", 3), ("need", 4)]) (g := (gTup K 3 (gCons (gName 2) (gCons (gName 3) (gCons (gName 4) gNil))))) rfl sc_job_spans.nd (pi_tup (pe_c c_jobs_of hr (by decide) (by rfl) (pa_cons (pv 0) pa_nil))) (blkOk_by (N := n_job_spans) (sc := defScope s_job_spans) (by decide +kernel)) (fun _ _ _ _ _ => (pg_tup rfl (pgs_cons (pg_name (i := 2) sc_job_spans.nd rfl (.inl rfl)) (pgs_cons (pg_name (i := 3) sc_job_spans.nd rfl (.inl rfl)) (pgs_cons (pg_name (i := 4) sc_job_spans.nd rfl (.inl rfl)) pgs_nil))))) (fun _ _ _ _ _ => pts_nil) (fun _ _ _ _ _ => (pe_tup (pa_cons (pe_ix (r := rIxT K) ix_tup (pv 1) (pv 2) (fun _ _ => rfl)) (pa_cons (pe_op op_add (pe_ix (r := rIxT K) ix_tup (pv 1) (pv 2) (fun _ _ => rfl)) (pv 3)) (pa_cons (pv 4) pa_nil)))))))), ?_⟩
    have few := ok.few
    refine ⟨_, rfl, ⟨_, x, rfl, h, by omega, fun pj us H1 s1 hpj lv => ?_⟩⟩
    refine ⟨pj, rfl, ⟨_, sq_tup hpj⟩, fun D nD => ?_⟩
    refine lc_tup (K := K) (a := pj) (xs := us) (fun i H' => ∃ vs, H' D = some (.lst vs) ∧ All2 (SnV H') vs (sps (x.jobs.take i) pt) ∧ Same H1 H') ⟨[], upd_same, .nil, same_upd nD⟩ (fun i H' _ h => by obtain ⟨_, _, _, sm⟩ := h; exact sq_tup (sm _ _ hpj)) ?_ ?_
    · rintro i y H2 hy ⟨vs, hD, fv, sm⟩
      obtain ⟨j, hj, pj', rfl, hpj'⟩ := lv.at_ hy
      have mj := List.mem_of_getElem? hj
      have li : i < x.jobs.length := (List.getElem?_eq_some_iff.mp hj).1
      have hp2 := (s1.trans sm) _ _ hpp
      have at1 := atI_nat (ptAt (ok.pl j mj))
      refine ⟨pj', _, rfl, sq_tup (sm _ _ hpj'), rfl, _, _, rfl, _, _, rfl, _, _, rfl, rfl, rfl, ?_⟩
      refine ⟨_, rfl, _, rfl, pp, _, _, _, rfl, rfl, sq_tup hp2, at1, _, rfl, _, rfl, pp, _, _, _, rfl, rfl, sq_tup hp2, at1, _, rfl, _, _, rfl, rfl, _, rfl, len3, fun t nt => ?_⟩
      have k3 := same_upd (o := .tup [.int (pt.getD j.1 0), .int (pt.getD j.1 0 + j.2.1), .int j.2.2]) nt
      have et : upd H2 t (.tup [.int (pt.getD j.1 0), .int (pt.getD j.1 0 + j.2.1), .int j.2.2]) t = some (.tup [.int (pt.getD j.1 0), .int (pt.getD j.1 0 + j.2.1), .int j.2.2]) := upd_same
      have hD3 := k3 _ _ hD
      show _
      generalize upd H2 t (.tup [.int (pt.getD j.1 0), .int (pt.getD j.1 0 + j.2.1), .int j.2.2]) = H3 at *
      refine ⟨_, hD3, (by rw [fv.len]; unfold sps; rw [List.length_map, List.length_take]; exact small1000 (by omega)), vs ++ [.ref t], upd_same, ?_, same_at (sm.trans k3) nD⟩
      rw [take_one hj]
      unfold sps at fv ⊢
      rw [List.map_append]
      exact snTk (TK.put hD3) ((snTk (TK.of k3) fv).app ⟨t, rfl, et⟩)
    · rintro H2 ⟨vs, hD, fv, sm⟩
      rw [lv.len, List.take_length] at fv
      exact q D vs _ (s1.trans sm) (s1.free nD) hD fv
end
end M12

namespace M12
open PySem PySem.Spec PyProof.Rows L2 SX Own Gd
open C8 (Cal pe_c pe_gc pe_mk Mak pss_cut)
theorem key_inj {a b : Int} : (Sum.inl a : Key) = Sum.inl b ↔ a = b := ⟨fun e => by cases e; rfl, fun e => by rw [e]⟩
theorem net_app : ∀ (l : List Sn) (x : Sn) (m : Int), net (l ++ [x]) m = net l m + ((if x.1 = m then x.2.2 else 0) - (if x.2.1 = m then x.2.2 else 0))
  | [], (s, e, d), m => by simp [net]
  | (s, e, d) :: r, x, m => by
    rw [List.cons_append, net, net, net_app r x m]; omega
/-- a dict of integers as a function -/
structure DI (kvs : List (Key × V)) (ks : List Int) (f : Int → Int) : Prop where
  keys : kvs.map (·.1) = ks.map Sum.inl
  nd : ks.Nodup
  val : ∀ m, m ∈ ks → valV kvs (.inl m) = some (.int (f m))
  no : ∀ m, m ∉ ks → valV kvs (.inl m) = none
  zero : ∀ m, m ∉ ks → f m = 0
theorem DI.get {kvs : List (Key × V)} {ks : List Int} {f : Int → Int} (h : DI kvs ks f) (m : Int) : (valV kvs (.inl m)).getD (.int 0) = .int (f m) := by
  by_cases e : m ∈ ks
  · rw [h.val m e]; rfl
  · rw [h.no m e, h.zero m e]; rfl
theorem DI.put {kvs : List (Key × V)} {ks : List Int} {f : Int → Int} (h : DI kvs ks f) (k c : Int) : ∃ ks', DI (putK kvs (.inl k) (.int c)) ks' (fun m => if m = k then c else f m) ∧ ks'.length ≤ ks.length + 1 ∧ k ∈ ks' ∧ ∀ m ∈ ks, m ∈ ks' := by
  have val : ∀ m, valV (putK kvs (.inl k) (.int c)) (.inl m) = if m = k then some (.int c) else valV kvs (.inl m) := fun m => by
    rw [valV_put]
    by_cases e : m = k
    · rw [if_pos e, if_pos (key_inj.mpr e)]
    · rw [if_neg e, if_neg (fun z => e (key_inj.mp z))]
  by_cases e : k ∈ ks
  · refine ⟨ks, ⟨?_, h.nd, fun m hm => ?_, fun m hm => ?_, fun m hm => ?_⟩, Nat.le_succ _, e, fun m hm => hm⟩
    · have : (kvs.any fun kv => decide (kv.1 = (.inl k : Key))) = true := by
        have := h.val k e
        unfold valV at this
        cases q : kvs.find? (fun kv => decide (kv.1 = (.inl k : Key))) with
        | none => rw [q] at this; cases this
        | some z => exact List.any_eq_true.mpr ⟨z, List.mem_of_find?_eq_some q, by have := List.find?_some q; simpa using this⟩
      unfold putK
      rw [if_pos this, List.map_map, ← h.keys]
      refine List.map_congr_left fun kv _ => ?_
      show (if kv.1 = (.inl k : Key) then (kv.1, V.int c) else kv).1 = kv.1
      split <;> rfl
    · rw [val]
      by_cases z : m = k
      · rw [if_pos z, if_pos z]
      · rw [if_neg z, if_neg z]; exact h.val m hm
    · rw [val, if_neg (fun z => hm (by rw [z]; exact e))]; exact h.no m hm
    · rw [if_neg (fun z => hm (by rw [z]; exact e))]; exact h.zero m hm
  · refine ⟨ks ++ [k], ⟨?_, ?_, fun m hm => ?_, fun m hm => ?_, fun m hm => ?_⟩, by rw [List.length_append]; exact Nat.le_refl _, by simp, fun m hm => by simp [hm]⟩
    · rw [putK_new _ (h.no k e), List.map_append, List.map_append, h.keys]; rfl
    · rw [List.nodup_append]
      exact ⟨h.nd, by simp, fun a ha b hb => by rw [List.mem_singleton.mp hb]; exact fun z => e (z ▸ ha)⟩
    · rw [val]
      by_cases z : m = k
      · rw [if_pos z, if_pos z]
      · rw [if_neg z, if_neg z]
        rcases List.mem_append.mp hm with hm | hm
        · exact h.val m hm
        · exact absurd (List.mem_singleton.mp hm) z
    · have h1 : m ≠ k := fun z => hm (by simp [z])
      rw [val, if_neg h1]; exact h.no m fun z => hm (by simp [z])
    · have h1 : m ≠ k := fun z => hm (by simp [z])
      rw [if_neg h1]; exact h.zero m fun z => hm (by simp [z])
theorem DI.cong {kvs : List (Key × V)} {ks : List Int} {f g : Int → Int} (h : DI kvs ks f) (e : ∀ m, f m = g m) : DI kvs ks g := by rw [← funext e]; exact h
/-- what needs_over_time tells -/
structure Told (l : List Sn) (ps : List (Int × Int)) : Prop where
  inc : (ps.map (·.1)).Pairwise (· < ·)
  val : ∀ x ∈ ps, x.2 = ld l x.1
  all : ∀ m, net l m ≠ 0 → m ∈ ps.map (·.1)
  nz : ∀ x ∈ ps, net l x.1 ≠ 0
  few : ps.length ≤ 2 * l.length
/-- between two keys, and below all, the load stays -/
theorem between {l : List Sn} (p : Pos l) {ks : List Int} (all : ∀ m, m ∉ ks → net l m = 0) {a b : Int} (ab : a ≤ b) (h : ∀ x ∈ ks, x ≤ a ∨ b < x) : ld l b = ld l a := by
  refine ld_const p (b - a).toNat (by omega) fun x h1 h2 => ?_
  by_cases e : x ∈ ks
  · rcases h x e with z | z <;> omega
  · exact all x e
theorem below {l : List Sn} (p : Pos l) {ks : List Int} (all : ∀ m, m ∉ ks → net l m = 0) {b : Int} (h : ∀ x ∈ ks, b < x) : ld l b = 0 := by
  obtain ⟨lo, hl⟩ := lowest l
  by_cases z : b ≤ lo
  · exact ld_low fun x hx => by have := hl x hx; omega
  · rw [between (ks := ks) p all (a := lo) (b := b) (by omega) fun x hx => .inr (h x hx)]
    exact ld_low fun x hx => hl x hx
/-- the load behind the i keys so far -/
def lastLd (l : List Sn) (ks : List Int) (i : Nat) : Int := if i = 0 then 0 else ld l (ks.getD (i - 1) 0)
theorem last_step {l : List Sn} (p : Pos l) {ks : List Int} (inc : ks.Pairwise (· < ·)) (all : ∀ m, m ∉ ks → net l m = 0) {i : Nat} {m : Int} (h : ks[i]? = some m) : lastLd l ks i + net l m = ld l m := by
  have hi := (List.getElem?_eq_some_iff.mp h).1
  have lt : ∀ (a b : Nat) (ha : a < ks.length) (hb : b < ks.length), a < b → ks[a] < ks[b] := List.pairwise_iff_getElem.mp inc
  have em : ks[i] = m := (List.getElem?_eq_some_iff.mp h).2
  rw [ld_step p m]
  congr 1
  unfold lastLd
  by_cases z : i = 0
  · rw [if_pos z]
    refine (below p all fun x hx => ?_).symm
    obtain ⟨j, hj, rfl⟩ := List.mem_iff_getElem.mp hx
    by_cases e : j = i
    · subst e; omega
    · have := lt i j hi hj (by omega); omega
  · rw [if_neg z, List.getD_eq_getElem?_getD, List.getElem?_eq_getElem (by omega)]
    show ld l ks[i - 1] = _
    have := lt (i - 1) i (by omega) hi (by omega)
    refine (between p all (by omega) fun x hx => ?_).symm
    obtain ⟨j, hj, rfl⟩ := List.mem_iff_getElem.mp hx
    by_cases e : j ≤ i - 1
    · left
      by_cases e2 : j = i - 1
      · subst e2; exact Int.le_refl _
      · exact Int.le_of_lt (lt j (i - 1) hj (by omega) (by omega))
    · right
      by_cases e2 : j = i
      · subst e2; omega
      · have := lt i j hi hj (by omega); omega
def tellF (l : List Sn) (ks : List Int) : List (Int × Int) := (ks.filter fun m => decide (net l m ≠ 0)).map fun m => (m, ld l m)
theorem tell_one {l : List Sn} {ks : List Int} {i : Nat} {m : Int} (h : ks[i]? = some m) : tellF l (ks.take (i + 1)) = tellF l (ks.take i) ++ (if net l m ≠ 0 then [(m, ld l m)] else []) := by
  unfold tellF
  rw [take_one h, List.filter_append, List.map_append]
  by_cases e : net l m ≠ 0
  · rw [if_pos e, show [m].filter (fun m => decide (net l m ≠ 0)) = [m] from by simp [e]]; rfl
  · rw [if_neg e, show [m].filter (fun m => decide (net l m ≠ 0)) = [] from by simp at e; simp [e]]; rfl
theorem tell_told {l : List Sn} {ks : List Int} (inc : ks.Pairwise (· < ·)) (all : ∀ m, m ∉ ks → net l m = 0) (few : ks.length ≤ 2 * l.length) : Told l (tellF l ks) := by
  have e : (tellF l ks).map (·.1) = ks.filter fun m => decide (net l m ≠ 0) := by
    unfold tellF; rw [List.map_map]; exact List.map_id _
  refine ⟨by rw [e]; exact inc.filter _, fun x hx => ?_, fun m hm => ?_, fun x hx => ?_, ?_⟩
  · obtain ⟨m, _, rfl⟩ := List.mem_map.mp hx; rfl
  · rw [e]
    refine List.mem_filter.mpr ⟨?_, decide_eq_true hm⟩
    by_cases z : m ∈ ks
    · exact z
    · exact absurd (all m z) hm
  · obtain ⟨m, hm, rfl⟩ := List.mem_map.mp hx
    exact of_decide_eq_true (List.mem_filter.mp hm).2
  · unfold tellF
    rw [List.length_map]
    exact Nat.le_trans (List.length_filter_le ..) few
section
variable {P : Program} {w : World} {K : PySem.W.Frag} {mg : Str → Option Value} {base : Heap} {aT : Addr} {es : Array DictEntry} {nn : Nat}
abbrev s_needs_over_time : Stmt := topS 9
abbrev n_needs_over_time : List Str := ["spans", "changes", "start", "end", "need", "needs", "told", "moment"]
theorem sc_needs_over_time : FnScope n_needs_over_time ["spans"] (defScope s_needs_over_time) := ⟨rfl, rfl, rfl, by decide +kernel, rfl, by decide +kernel, by decide +kernel⟩
def spOver : Sp := fun vs H Q _ => ∃ (p : Addr) (us : List V) (l : List Sn), vs = [.ref p] ∧ H p = some (.lst us) ∧ All2 (SnV H) us l ∧ Pos l ∧ l.length ≤ 20 ∧ ∀ q ys ps H', Same H H' → H' q = some (.tup ys) → All2 (P2 H') ys ps → Told l ps → Q (.ref q) H'
theorem ok_needs_over_time {f : Addr} {fd : FuncData} (F : Fun K "needs_over_time" "needs_over_time" s_needs_over_time f fd) (T : Txt K mg w aT es nn) : FnOk P w K mg base CX0 2 f fd ["spans"] spOver := by
  refine F.ok sc_needs_over_time (fun vs H Q E h => ?_) (fun cdv A outer s0 H vs Q E hr h => ?_)
  · obtain ⟨p, us, l, rfl, _⟩ := h
    rfl
  · obtain ⟨p, us, l, rfl, hp, lv, pos, few, q0⟩ := h
    have lus := lv.len
    refine ⟨_, (pss_cons (ps_set (i := 1) sc_needs_over_time.nd rfl (.inl rfl) pe_dnewK)
      (pss_cut (ps_for PassesOwn.never rfl (pi_list (pv 0)) (pg_tup rfl (pgs_cons (pg_name (i := 2) sc_needs_over_time.nd rfl (.inl rfl)) (pgs_cons (pg_name (i := 3) sc_needs_over_time.nd rfl (.inl rfl)) (pgs_cons (pg_name (i := 4) sc_needs_over_time.nd rfl (.inl rfl)) pgs_nil)))) (pss_cons (ps_asg (pe_op op_add (pe_dget2 hr.units1 (pv 1) (pv 2) pe_int ⟨rfl, rfl, rfl, rfl⟩) (pv 4)) (pg_sub (pv 1) (pv 2) (set_dict hr.units1)))
        (pss_one (ps_asg (pe_op op_sub (pe_dget2 hr.units1 (pv 1) (pv 3) pe_int ⟨rfl, rfl, rfl, rfl⟩) (pv 4)) (pg_sub (pv 1) (pv 3) (set_dict hr.units1))))))
      (pss_cons (ps_set (i := 5) sc_needs_over_time.nd rfl (.inl rfl) pe_int)
      (pss_cons (ps_set (i := 6) sc_needs_over_time.nd rfl (.inl rfl) (pe_lst pa_nil))
      (pss_cons (ps_for PassesOwn.never rfl (pi_list (pe_callB (call_sortedDI rfl) (by rfl) T.b_sorted (by decide +kernel) (pa_cons (pv 1) pa_nil))) (pg_name (i := 7) sc_needs_over_time.nd rfl (.inl rfl)) (pss_one (ps_if (pt_cmpR op_ne (pe_dget hr.units1 (pv 1) (pv 7) (fun _ _ => rfl)) pe_int (nomark _)) (pss_cons (ps_aug (i := 5) sc_needs_over_time.nd rfl (.inl rfl) (pe_dget hr.units1 (pv 1) (pv 7) (fun _ _ => rfl)) ip_add)
          (pss_one (ps_expr (pe_bm PySem.F.plainAttrs_list PySem.F.slot_list_append PySem.F.type_list_append mt_append (pv 6) (pa_cons (pe_tup (pa_cons (pv 7) (pa_cons (pv 5) pa_nil))) pa_nil))))) pss_nil)))
      (pss_one (ps_ret (pe_callTy call_tuple_of (by rfl) T.b_tuple (by decide +kernel) (pa_cons (pv 6) pa_nil))))))))), ?_⟩
    intro d nd
    have sd : Same H (upd H d (.dK [])) := same_upd nd
    refine ⟨fun σ H' => ∃ y2 y3 y4 kvs ks, σ = [some (.ref p), some (.ref d), y2, y3, y4, none, none, none] ∧ Same H H' ∧ H' d = some (.dK kvs) ∧ DI kvs ks (net l) ∧ ks.length ≤ 2 * l.length, ?_, fun σ H2 hM => ?_⟩
    · refine ⟨_, rfl, p, rfl, ⟨_, sq_lst (sd _ _ hp)⟩, for_list (K := K) (a := p) (xs := us) (fun i σ H' => ∃ y2 y3 y4 kvs ks, σ = [some (.ref p), some (.ref d), y2, y3, y4, none, none, none] ∧ Same H H' ∧ H' d = some (.dK kvs) ∧ DI kvs ks (net (l.take i)) ∧ ks.length ≤ 2 * i)
        ⟨none, none, none, [], [], rfl, sd, upd_same, ⟨rfl, List.nodup_nil, fun m hm => (nomatch hm), fun m _ => rfl, fun m _ => rfl⟩, Nat.zero_le _⟩ (fun i σ H' _ h => by obtain ⟨_, _, _, _, _, _, sm, _⟩ := h; exact sq_lst (sm _ _ hp)) ?_ ?_⟩
      · rintro i x σ H' hx ⟨y2, y3, y4, kvs, ks, rfl, sm, hd, di, lk⟩
        obtain ⟨s, hs, t, rfl, ht⟩ := lv.at_ hx
        have li : i < l.length := (List.getElem?_eq_some_iff.mp hs).1
        have lkv : kvs.length = ks.length := by have := congrArg List.length di.keys; rw [List.length_map, List.length_map] at this; exact this
        refine ⟨t, _, rfl, sq_tup (sm _ _ ht), rfl, _, _, rfl, _, _, rfl, _, _, rfl, rfl, ?_⟩
        refine ⟨_, rfl, d, rfl, .inl ⟨kvs, .inl hd⟩, _, rfl, _, DGet.k (k := .inl s.1) hd, _, rfl, _, _, di.get s.1, rfl, ?_⟩
        obtain ⟨ks1, di1, lk1, _⟩ := di.put s.1 (net (l.take i) s.1 + s.2.2)
        have lkv1 : ∀ c, (putK kvs (.inl s.1) c).length ≤ kvs.length + 1 := fun c => length_putK ..
        refine ⟨_, rfl, _, rfl, d, _, rfl, DPut.k (k := .inl s.1) hd (small1000 (by omega)), ?_⟩
        refine ⟨_, rfl, d, rfl, .inl ⟨_, .inl upd_same⟩, _, rfl, _, DGet.k (k := .inl s.2.1) upd_same, _, rfl, _, _, di1.get s.2.1, rfl, ?_⟩
        obtain ⟨ks2, di2, lk2, _⟩ := di1.put s.2.1 ((if s.2.1 = s.1 then net (l.take i) s.1 + s.2.2 else net (l.take i) s.2.1) - s.2.2)
        refine ⟨_, rfl, _, rfl, d, _, rfl, DPut.k (k := .inl s.2.1) upd_same (small1000 (Nat.lt_of_le_of_lt (lkv1 _) (by omega))), ?_⟩
        refine ⟨_, _, _, _, ks2, rfl, same_at (same_at sm nd) nd, upd_same, di2.cong fun m => ?_, by omega⟩
        rw [take_one hs, net_app]
        show (if m = s.2.1 then ((if s.2.1 = s.1 then net (l.take i) s.1 + s.2.2 else net (l.take i) s.2.1) - s.2.2) else (if m = s.1 then net (l.take i) s.1 + s.2.2 else net (l.take i) m)) = _
        by_cases h1 : m = s.2.1
        · subst h1
          by_cases h2 : s.2.1 = s.1
          · rw [if_pos rfl, if_pos h2, if_pos (show s.1 = s.2.1 from h2.symm), if_pos rfl, h2]; omega
          · rw [if_pos rfl, if_neg h2, if_neg (show ¬ s.1 = s.2.1 from fun z => h2 z.symm), if_pos rfl]; omega
        · rw [if_neg h1, if_neg (show ¬ s.2.1 = m from fun z => h1 z.symm)]
          by_cases h2 : m = s.1
          · rw [if_pos h2, if_pos (show s.1 = m from h2.symm), h2]; omega
          · rw [if_neg h2, if_neg (show ¬ s.1 = m from fun z => h2 z.symm)]; omega
      · rintro σ H' ⟨y2, y3, y4, kvs, ks, rfl, sm, hd, di, lk⟩
        rw [lus, List.take_length] at di
        exact ⟨_, _, _, kvs, ks, rfl, sm, hd, di, by omega⟩
    obtain ⟨y2, y3, y4, kvs, ks, rfl, sm, hd, di, lk⟩ := hM
    refine ⟨by show 0 ≤ _; exact Nat.zero_le _, fun q nq => ?_⟩
    have s2 : Same H (upd H2 q (.lst [])) := same_at sm (sm.free nq)
    have nqd : q ≠ d := (ne_of_none hd nq).symm
    have hd2 : upd H2 q (.lst []) d = some (.dK kvs) := by rw [upd_ne (ne_of_none hd nq)]; exact hd
    refine ⟨_, rfl, d, kvs, ks, rfl, .inl hd2, di.keys, by omega, fun yk pk pm inc npk => ?_⟩
    have nd2 := pm.nodup_iff.mpr di.nd
    have inc := lt_of_le_nodup yk inc nd2
    have s3 : Same H (upd (upd H2 q (.lst [])) pk (.lst (yk.map V.int))) := s2.trans (same_upd npk)
    have hd3 : upd (upd H2 q (.lst [])) pk (.lst (yk.map V.int)) d = some (.dK kvs) := same_upd npk _ _ hd2
    have hq3 : upd (upd H2 q (.lst [])) pk (.lst (yk.map V.int)) q = some (.lst []) := same_upd npk _ _ upd_same
    have hk3 : upd (upd H2 q (.lst [])) pk (.lst (yk.map V.int)) pk = some (.lst (yk.map V.int)) := upd_same
    have nHq : H q = none := sm.free nq
    have qpk : q ≠ pk := ne_of_none upd_same npk
    generalize upd (upd H2 q (.lst [])) pk (.lst (yk.map V.int)) = H3 at *
    refine ⟨pk, rfl, ⟨_, sq_lst hk3⟩, for_list (K := K) (a := pk) (xs := yk.map V.int) (fun i σ H' => ∃ y7 ys, σ = [some (.ref p), some (.ref d), y2, y3, y4, some (.int (lastLd l yk i)), some (.ref q), y7] ∧ Same H H' ∧ H' d = some (.dK kvs) ∧ H' pk = some (.lst (yk.map V.int)) ∧ H' q = some (.lst ys) ∧ All2 (P2 H') ys (tellF l (yk.take i)))
      ⟨none, [], rfl, s3, hd3, hk3, hq3, .nil⟩ (fun i σ H' _ h => by obtain ⟨_, _, _, _, _, hk, _⟩ := h; exact sq_lst hk) ?_ ?_⟩
    · rintro i x σ H' hx ⟨y7, ys, rfl, sm', hd', hk', hq', ps'⟩
      obtain ⟨m, hm, rfl⟩ := at_map hx
      have mk : m ∈ ks := pm.mem_iff.mp (List.mem_of_getElem? hm)
      have stp : lastLd l yk i + net l m = ld l m := last_step pos inc (fun m hm => di.zero m fun z => hm (pm.mem_iff.mpr z)) hm
      have gv : DGet H' d (kV (.inl m)) (some (.int (net l m))) := di.val m mk ▸ DGet.k (k := .inl m) hd'
      have nx : lastLd l yk (i + 1) = ld l m := by unfold lastLd; rw [if_neg (Nat.succ_ne_zero i), Nat.add_sub_cancel, List.getD_eq_getElem?_getD, hm]; rfl
      refine ⟨_, rfl, _, rfl, d, _, rfl, gv, rfl, _, rfl, ite2 (fun hz => ?_) (fun hz => ?_)⟩
      · have hz : net l m ≠ 0 := fun z => by rw [z] at hz; simp at hz
        refine ⟨_, rfl, _, rfl, _, rfl, d, _, rfl, gv, _, _, rfl, rfl, ?_⟩
        refine ⟨_, rfl, .inl ⟨rfl, ys, sq_lst hq'⟩, _, rfl, _, rfl, len2, fun t nt => ?_⟩
        have k4 := same_upd (o := .tup [.int m, .int (lastLd l yk i + net l m)]) nt
        have et : upd H' t (.tup [.int m, .int (lastLd l yk i + net l m)]) t = some (.tup [.int m, .int (lastLd l yk i + net l m)]) := upd_same
        have hq4 := k4 _ _ hq'; have hd4 := k4 _ _ hd'; have hk4 := k4 _ _ hk'
        have lys : ys.length < 10000 := by
          have := ps'.len
          unfold tellF at this
          rw [List.length_map] at this
          have l1 := List.length_filter_le (fun m => decide (net l m ≠ 0)) (yk.take i)
          rw [List.length_take] at l1
          have l2 := pm.length_eq
          omega
        have sm4 := sm'.trans k4
        generalize upd H' t (.tup [.int m, .int (lastLd l yk i + net l m)]) = H4 at *
        refine ⟨q, ys, _, rfl, rfl, hq4, small1000 lys, ?_⟩
        refine ⟨_, ys ++ [.ref t], by rw [nx, ← stp]; rfl, same_at sm4 nHq, by rw [upd_ne (ne_of_none hd nq)]; exact hd4, by rw [upd_ne (Ne.symm qpk)]; exact hk4, upd_same, ?_⟩
        rw [tell_one hm, if_pos hz]
        exact p2Tk (TK.put hq4) ((p2Tk (TK.of k4) ps').app ⟨t, rfl, by rw [← stp]; exact et⟩)
      · have hz : net l m = 0 := by
          by_cases e : net l m = 0
          · exact e
          · exact absurd (by simp [e]) hz
        refine ⟨_, ys, by rw [nx, ← stp, hz, Int.add_zero]; rfl, sm', hd', hk', hq', ?_⟩
        rw [tell_one hm, if_neg (by rw [hz]; exact fun h => h rfl), List.append_nil]
        exact ps'
    · rintro σ H' ⟨y7, ys, rfl, sm', hd', hk', hq', ps'⟩
      rw [List.length_map, List.take_length] at ps'
      refine ⟨_, rfl, q, ys, rfl, .inl ⟨sq_lst hq', fun t nt => ?_⟩⟩
      exact q0 t ys _ _ (sm'.trans (same_upd nt)) upd_same (p2Tk (TK.of (same_upd nt)) ps') (tell_told inc (fun m hm => di.zero m fun z => hm (pm.mem_iff.mpr z)) (by rw [pm.length_eq]; exact lk))
end
end M12

namespace M12
open PySem PySem.Spec PyProof.Rows L2 SX Own Gd
open C8 (Cal pe_c pe_gc pe_mk Mak pss_cut)
theorem filter_range_succ {p : Nat → Bool} {i : Nat} : (List.range (i + 1)).filter p = (List.range i).filter p ++ if p i = true then [i] else [] := by
  rw [List.range_succ, List.filter_append]
  by_cases e : p i = true
  · rw [if_pos e]; simp [e]
  · rw [if_neg e]; simp [e]
def natI (l : List Nat) : List Int := l.map fun k : Nat => (k : Int)
theorem natI_app (a b : List Nat) : natI (a ++ b) = natI a ++ natI b := List.map_append
/-- the numbers of the spans that hold a moment -/
def rnP (l : List Sn) (m : Int) (k : Nat) : Bool := decide ((l.getD k (0, 0, 0)).1 ≤ m ∧ m < (l.getD k (0, 0, 0)).2.1)
def rnF (l : List Sn) (m : Int) (i : Nat) : List Int := natI ((List.range i).filter (rnP l m))
theorem rnF_len (l : List Sn) (m : Int) (i : Nat) : (rnF l m i).length ≤ i := by
  unfold rnF natI
  rw [List.length_map]
  exact Nat.le_trans (List.length_filter_le ..) (by rw [List.length_range]; exact Nat.le_refl _)
theorem rnP_at {l : List Sn} {m : Int} {k : Nat} {s : Sn} (h : l[k]? = some s) : rnP l m k = decide (s.1 ≤ m ∧ m < s.2.1) := by
  unfold rnP; rw [List.getD_eq_getElem?_getD, h]; rfl
theorem rnF_one {l : List Sn} {m : Int} {k : Nat} {s : Sn} (h : l[k]? = some s) : rnF l m (k + 1) = rnF l m k ++ (if s.1 ≤ m ∧ m < s.2.1 then [(k : Int)] else []) := by
  unfold rnF
  rw [filter_range_succ, natI_app, rnP_at h]
  by_cases e : s.1 ≤ m ∧ m < s.2.1
  · rw [if_pos (decide_eq_true e), if_pos e]; rfl
  · rw [if_neg (by rw [decide_eq_true_eq]; exact e), if_neg e]; rfl
theorem lb_app (f t : Int) (x : Sn) : ∀ l : List Sn, lb (l ++ [x]) f t = lb l f t + x.2.2 * cov x.1 x.2.1 f t
  | [] => by simp [lb]
  | (s, e, d) :: r => by
    rw [List.cons_append, lb, lb, lb_app f t x r]; omega
theorem cov_if (s e f t : Int) : (if ((if t < e then t else e) - (if f > s then f else s)) > 0 then ((if t < e then t else e) - (if f > s then f else s)) else 0) = cov s e f t := by
  unfold cov
  repeat' split
  all_goals omega
/-- the best of pairs: the first with the greatest second -/
def pkF : List (Int × Int) → Option (Int × Int) → Option (Int × Int)
  | [], b => b
  | x :: r, none => pkF r (some x)
  | x :: r, some b => pkF r (some (if x.2 > b.2 then x else b))
theorem pkF_app (x : Int × Int) : ∀ (r : List (Int × Int)) (b : Option (Int × Int)), pkF (r ++ [x]) b = match pkF r b with | none => some x | some b => some (if x.2 > b.2 then x else b)
  | [], none => rfl
  | [], some b => rfl
  | y :: r, none => pkF_app x r _
  | y :: r, some b => pkF_app x r _
theorem pkF_scan {f : Int → Int} : ∀ (r : List (Int × Int)) (b : Int × Int), (∀ x ∈ r, x.2 = f x.1) → pkF r (some b) = some (scan f (r.map (·.1)) b)
  | [], b, _ => rfl
  | x :: r, b, h => by
    have e : x.2 = f x.1 := h x (List.mem_cons_self ..)
    have ex : x = (x.1, f x.1) := by rw [← e]
    show pkF r (some (if x.2 > b.2 then x else b)) = some (scan f (r.map (·.1)) (if f x.1 > b.2 then (x.1, f x.1) else b))
    rw [pkF_scan r _ fun y hy => h y (List.mem_cons_of_mem _ hy), e, ← ex]
theorem pkF_pk {l : List Sn} (p : Pos l) (ne : l ≠ []) {ps : List (Int × Int)} (t : Told l ps) : ∃ m M, pkF ps none = some (m, M) ∧ Pk l m M := by
  have sp := scan_pk p ne t.inc t.all
  cases ps with
  | nil =>
    exfalso
    have h1 : ∀ m, ld l m = 0 := fun m => by
      rcases cover p m with g | ⟨c, _, _, g⟩
      · exact g
      · have := t.all c g; cases this
    cases l with
    | nil => exact ne rfl
    | cons x r =>
      obtain ⟨s, e, d⟩ := x
      have h2 := h1 s
      have h3 := ld_nn p.tl s
      have h4 : s < e ∧ 0 < d := p (s, e, d) (List.mem_cons_self ..)
      simp only [ld] at h2
      rw [if_pos ⟨Int.le_refl _, h4.1⟩] at h2
      omega
  | cons x r =>
    have ex : x.2 = ld l x.1 := t.val x (List.mem_cons_self ..)
    have pos : 0 < ld l x.1 := by
      have h1 := ld_nn p x.1
      have h2 := ld_step p x.1
      have h3 := t.nz x (List.mem_cons_self ..)
      have h4 : ld l (x.1 - 1) = 0 := by
        rcases cover p (x.1 - 1) with g | ⟨c, g1, _, g⟩
        · exact g
        · have hc := t.all c g
          rcases List.mem_cons.mp hc with z | z
          · have z : c = x.1 := z
            omega
          · have := (List.pairwise_cons.mp t.inc).1 c z
            have : x.1 < c := this
            omega
      omega
    have e1 : scan (ld l) ((x :: r).map (·.1)) (0, 0) = scan (ld l) (r.map (·.1)) x := by
      show scan (ld l) (r.map (·.1)) (if ld l x.1 > (0 : Int) then (x.1, ld l x.1) else (0, 0)) = _
      rw [if_pos pos, ← ex]
    rw [e1] at sp
    exact ⟨_, _, by show pkF r (some x) = _; rw [pkF_scan r x fun y hy => t.val y (List.mem_cons_of_mem _ hy)], sp⟩
section
variable {P : Program} {w : World} {K : PySem.W.Frag} {mg : Str → Option Value} {base : Heap} {aT : Addr} {es : Array DictEntry} {nn : Nat}
abbrev s_running : Stmt := topS 12
abbrev n_running : List Str := ["wish", "point", "moment", "spans", "job", "start", "end", "_"]
theorem sc_running : FnScope n_running ["wish", "point", "moment"] (defScope s_running) := ⟨rfl, rfl, rfl, by decide +kernel, rfl, by decide +kernel, by decide +kernel⟩
def spRunning : Sp := fun vs H Q _ => ∃ (v pv : V) (x : Wh) (pt : List Int) (m : Int), vs = [v, pv, .int m] ∧ WhV H v x ∧ LV H pv pt ∧ WOk pt.length x ∧ ∀ p H', Same H H' → H' p = some (tI (rnF (sps x.jobs pt) m x.jobs.length)) → Q (.ref p) H'
theorem ok_running {f : Addr} {fd : FuncData} (F : Fun K "running" "running" s_running f fd) (T : Txt K mg w aT es nn) (c_job_spans : Cal P w K mg base 2 "job_spans" spSpans []) : FnOk P w K mg base CX0 3 f fd ["wish", "point", "moment"] spRunning := by
  refine F.ok sc_running (fun vs H Q E h => ?_) (fun cdv A outer s0 H vs Q E hr h => ?_)
  · obtain ⟨v, v2, x, pt, m, rfl, _⟩ := h
    rfl
  · obtain ⟨v, v2, x, pt, m, rfl, h, hpt, ok, q⟩ := h
    refine ⟨_, (pss_cons (ps_set (i := 3) sc_running.nd rfl (.inl rfl) (pe_c c_job_spans hr (by decide) (by rfl) (pa_cons (pv 0) (pa_cons (pv 1) pa_nil))))
      (pss_one (ps_ret (pe_callTy call_tuple_of (by rfl) T.b_tuple (by decide +kernel) (pa_cons (pe_lc (own := [("job", 4), ("start", 5), ("end", 6), ("_", 7)]) (g := (gTup K 2 (gCons (gName 4) (gCons (gTup K 3 (gCons (gName 5) (gCons (gName 6) (gCons (gName 7) gNil)))) gNil)))) rfl sc_running.nd (pi_enum (by rfl) T.b_enumerate (pa_cons (pv 3) pa_nil)) (blkOk_by (N := n_running) (sc := defScope s_running) (by decide +kernel)) (fun _ _ _ _ _ => (pg_tup rfl (pgs_cons (pg_name (i := 4) sc_running.nd rfl (.inl rfl)) (pgs_cons (pg_tup rfl (pgs_cons (pg_name (i := 5) sc_running.nd rfl (.inl rfl)) (pgs_cons (pg_name (i := 6) sc_running.nd rfl (.inl rfl)) (pgs_cons (pg_name (i := 7) sc_running.nd rfl (.inl rfl)) pgs_nil)))) pgs_nil)))) (fun _ _ _ _ _ => (pts_one (pt_chain op_le op_lt (pv 5) (pv 2) (pv 6)))) (fun _ _ _ _ _ => (pv 4))) pa_nil))))), ?_⟩
    have few := ok.few
    refine ⟨_, rfl, _, rfl, v, v2, x, pt, rfl, h, hpt, ok, fun p us H1 s1 np hp lv => ?_⟩
    have ll : (sps x.jobs pt).length = x.jobs.length := List.length_map ..
    have lus : us.length = x.jobs.length := lv.len.trans ll
    refine ⟨_, rfl, p, _, rfl, sq_lst hp, fun D nD => ?_⟩
    refine lc_it walk_enum (fun i H' => H' D = some (.lst ((rnF (sps x.jobs pt) m i).map V.int)) ∧ Same H1 H') ⟨upd_same, same_upd nD⟩ (fun i H' _ h => sq_lst (h.2 _ _ hp)) ?_ ?_
    · rintro i x1 H2 H3 hi ⟨hD, sm⟩ ⟨T', k1, w1, rfl, nT, rfl, hk1, hw⟩
      cases hk1
      obtain ⟨s, hs, t, rfl, ht⟩ := lv.at_ hw
      have sT := same_at (o := .tup [.int (i : Nat), .ref t]) sm (sm.free nT)
      have hDT : upd H2 T' (.tup [.int (i : Nat), .ref t]) D = some _ := same_upd nT _ _ hD
      refine ⟨T', _, rfl, sq_tup upd_same, rfl, _, _, rfl, _, _, rfl, ⟨t, _, rfl, sq_tup (sT _ _ ht), rfl, _, _, rfl, _, _, rfl, _, _, rfl, rfl, rfl, ?_⟩⟩
      have no : ¬ (s.1 ≤ m ∧ m < s.2.1) → upd H2 T' (.tup [.int (i : Nat), .ref t]) D = some (.lst ((rnF (sps x.jobs pt) m (i + 1)).map V.int)) ∧ Same H1 (upd H2 T' (.tup [.int (i : Nat), .ref t])) := fun h => ⟨by rw [rnF_one hs, if_neg h, List.append_nil]; exact hDT, sT⟩
      refine ⟨rfl, _, rfl, _, rfl, _, _, rfl, rfl, _, rfl, ite2 (fun h1 => ?_) (fun h1 => ⟨_, rfl, iteF (no fun z => h1 (decide_eq_true z.1))⟩)⟩
      refine ⟨_, rfl, _, _, rfl, rfl, _, rfl, ite2 (fun h2 => ?_) (fun h2 => no fun z => h2 (decide_eq_true z.2))⟩
      have li := rnF_len (sps x.jobs pt) m i
      have hi' : i < us.length := (List.getElem?_eq_some_iff.mp hw).1
      refine ⟨_, rfl, _, hDT, (by rw [List.length_map]; exact small1000 (by omega)), ?_, same_at sT nD⟩
      rw [upd_same, rnF_one hs, if_pos ⟨of_decide_eq_true h1, of_decide_eq_true h2⟩, List.map_append]; rfl
    · rintro H2 ⟨hD, sm⟩
      rw [lus] at hD
      refine ⟨D, _, rfl, .inl ⟨sq_lst hD, fun t nt => ?_⟩⟩
      exact q t _ ((s1.trans sm).trans (same_upd nt)) upd_same
abbrev s_load_between : Stmt := topS 13
abbrev n_load_between : List Str := ["wish", "point", "first", "last", "load", "start", "end", "need"]
theorem sc_load_between : FnScope n_load_between ["wish", "point", "first", "last"] (defScope s_load_between) := ⟨rfl, rfl, rfl, by decide +kernel, rfl, by decide +kernel, by decide +kernel⟩
def spLoad : Sp := fun vs H Q _ => ∃ (v v2 : V) (x : Wh) (pt : List Int) (a b : Int), vs = [v, v2, .int a, .int b] ∧ WhV H v x ∧ LV H v2 pt ∧ WOk pt.length x ∧ ∀ H', Same H H' → Q (.int (lb (sps x.jobs pt) a b)) H'
theorem ok_load_between {f : Addr} {fd : FuncData} (F : Fun K "load_between" "load_between" s_load_between f fd) (T : Txt K mg w aT es nn) (c_job_spans : Cal P w K mg base 2 "job_spans" spSpans []) : FnOk P w K mg base CX0 3 f fd ["wish", "point", "first", "last"] spLoad := by
  refine F.ok sc_load_between (fun vs H Q E h => ?_) (fun cdv A outer s0 H vs Q E hr h => ?_)
  · obtain ⟨v, v2, x, pt, a, b, rfl, _⟩ := h
    rfl
  · obtain ⟨v, v2, x, pt, a, b, rfl, h, hpt, ok, q⟩ := h
    refine ⟨_, (pss_cons (ps_set (i := 4) sc_load_between.nd rfl (.inl rfl) pe_int)
      (pss_cons (ps_for PassesOwn.never rfl (pi_list (pe_c c_job_spans hr (by decide) (by rfl) (pa_cons (pv 0) (pa_cons (pv 1) pa_nil)))) (pg_tup rfl (pgs_cons (pg_name (i := 5) sc_load_between.nd rfl (.inl rfl)) (pgs_cons (pg_name (i := 6) sc_load_between.nd rfl (.inl rfl)) (pgs_cons (pg_name (i := 7) sc_load_between.nd rfl (.inl rfl)) pgs_nil)))) (pss_one (ps_aug (i := 4) sc_load_between.nd rfl (.inl rfl) (pe_op op_mul (pv 7) (pe_callB (call_max2 rfl) (by rfl) T.b_max (by decide +kernel) (pa_cons pe_int (pa_cons (pe_op op_sub (pe_callB (call_min2 rfl) (by rfl) T.b_min (by decide +kernel) (pa_cons (pv 6) (pa_cons (pv 3) pa_nil))) (pe_callB (call_max2 rfl) (by rfl) T.b_max (by decide +kernel) (pa_cons (pv 5) (pa_cons (pv 2) pa_nil)))) pa_nil)))) ip_add)))
      (pss_one (ps_ret (pv 4))))), ?_⟩
    refine ⟨_, rfl, _, rfl, v, v2, x, pt, rfl, h, hpt, ok, fun p us H1 s1 np hp lv => ?_⟩
    have lus := lv.len
    refine ⟨p, rfl, ⟨_, sq_lst hp⟩, for_list (K := K) (a := p) (xs := us) (fun i σ H' => ∃ y5 y6 y7, σ = [some v, some v2, some (.int a), some (.int b), some (.int (lb ((sps x.jobs pt).take i) a b)), y5, y6, y7] ∧ Same H1 H')
      ⟨none, none, none, rfl, Same.refl _⟩ (fun i σ H' _ h => by obtain ⟨_, _, _, _, sm⟩ := h; exact sq_lst (sm _ _ hp)) ?_ ?_⟩
    · rintro i y σ H' hy ⟨y5, y6, y7, rfl, sm⟩
      obtain ⟨s, hs, t, rfl, ht⟩ := lv.at_ hy
      refine ⟨t, _, rfl, sq_tup (sm _ _ ht), rfl, _, _, rfl, _, _, rfl, _, _, rfl, rfl, ?_⟩
      obtain ⟨j, mj, ej⟩ := List.mem_map.mp (List.mem_of_getElem? hs)
      have d1 := ok.nb j mj
      have d0 := ok.nd j mj
      have ed : s.2.2 = j.2.2 := by rw [← ej]
      refine ⟨_, rfl, _, rfl, _, rfl, _, rfl, _, _, rfl, _, rfl, _, rfl, _, _, rfl, _, _, rfl, rfl, _, _, rfl, _, _, rfl, rfl, .inl ⟨by omega, by omega⟩, _, _, rfl, rfl, ?_⟩
      refine ⟨some (.int s.1), some (.int s.2.1), some (.int s.2.2), ?_, sm⟩
      rw [take_one hs, lb_app, ← cov_if]; rfl
    · rintro σ H' ⟨y5, y6, y7, rfl, sm⟩
      rw [lus, List.take_length]
      exact ⟨_, rfl, q _ (s1.trans sm)⟩
abbrev s_peak : Stmt := topS 14
abbrev n_peak : List Str := ["wish", "point", "best", "moment", "needs"]
theorem sc_peak : FnScope n_peak ["wish", "point"] (defScope s_peak) := ⟨rfl, rfl, rfl, by decide +kernel, rfl, by decide +kernel, by decide +kernel⟩
def spPeak : Sp := fun vs H Q _ => ∃ (v v2 : V) (x : Wh) (pt : List Int), vs = [v, v2] ∧ WhV H v x ∧ LV H v2 pt ∧ WOk pt.length x ∧ ∀ p m M H', Pk (sps x.jobs pt) m M → Same H H' → H' p = some (.tup [.int m, .int M]) → Q (.ref p) H'
def BstV (H : Hp) (v : V) : Option (Int × Int) → Prop
  | none => v = .non
  | some b => P2 H v b
theorem ok_peak {f : Addr} {fd : FuncData} (F : Fun K "peak" "peak" s_peak f fd) (T : Txt K mg w aT es nn) (c_job_spans : Cal P w K mg base 2 "job_spans" spSpans []) (c_needs_over_time : Cal P w K mg base 2 "needs_over_time" spOver []) : FnOk P w K mg base CX0 3 f fd ["wish", "point"] spPeak := by
  refine F.ok sc_peak (fun vs H Q E h => ?_) (fun cdv A outer s0 H vs Q E hr h => ?_)
  · obtain ⟨v, v2, x, pt, rfl, _⟩ := h
    rfl
  · obtain ⟨v, v2, x, pt, rfl, h, hpt, ok, q⟩ := h
    refine ⟨_, (pss_cons (ps_set (i := 2) sc_peak.nd rfl (.inl rfl) pe_non)
      (pss_cons (ps_for PassesOwn.never rfl (pi_tup (pe_c c_needs_over_time hr (by decide) (by rfl) (pa_cons (pe_c c_job_spans hr (by decide) (by rfl) (pa_cons (pv 0) (pa_cons (pv 1) pa_nil))) pa_nil))) (pg_tup rfl (pgs_cons (pg_name (i := 3) sc_peak.nd rfl (.inl rfl)) (pgs_cons (pg_name (i := 4) sc_peak.nd rfl (.inl rfl)) pgs_nil))) (pss_one (ps_if (PW.pt (pw_or (pt_cmpR op_isN (pv 2) pe_non (nomark _)) (pw_or1 (pt_cmpR op_gt (pv 4) (pe_ix ix_tup (pv 2) pe_int (fun _ _ => rfl)) (nomark _))))) (pss_one (ps_set (i := 2) sc_peak.nd rfl (.inl rfl) (pe_tup (pa_cons (pv 3) (pa_cons (pv 4) pa_nil))))) pss_nil)))
      (pss_one (ps_ret (pv 2))))), ?_⟩
    have few := ok.few
    refine ⟨_, rfl, _, rfl, v, v2, x, pt, rfl, h, hpt, ok, fun p us H1 s1 np hp lv => ?_⟩
    refine ⟨p, us, _, rfl, hp, lv, ok.pos pt, by unfold sps; rw [List.length_map]; exact few, fun pq ys ps H2 s2 hpq pv2 told => ?_⟩
    refine ⟨pq, rfl, ⟨_, sq_tup hpq⟩, for_tup (K := K) (a := pq) (xs := ys) (fun i σ H' => ∃ bv y3 y4, σ = [some v, some v2, some bv, y3, y4] ∧ Same H2 H' ∧ BstV H' bv (pkF (ps.take i) none))
      ⟨_, none, none, rfl, Same.refl _, rfl⟩ (fun i σ H' _ h => by obtain ⟨_, _, _, _, sm, _⟩ := h; exact sq_tup (sm _ _ hpq)) ?_ ?_⟩
    · rintro i y σ H' hy ⟨bv, y3, y4, rfl, sm, hb⟩
      obtain ⟨a, ha, t, rfl, ht⟩ := pv2.at_ hy
      refine ⟨t, _, rfl, sq_tup (sm _ _ ht), rfl, _, _, rfl, _, _, rfl, rfl, ?_⟩
      have eT : pkF (ps.take (i + 1)) none = match pkF (ps.take i) none with | none => some a | some b => some (if a.2 > b.2 then a else b) := by rw [take_one ha, pkF_app]
      have put : ∀ t', H' t' = none → True → P2 (upd H' t' (.tup [.int a.1, .int a.2])) (.ref t') a ∧ Same H2 (upd H' t' (.tup [.int a.1, .int a.2])) := fun t' (nt' : H' t' = none) _ => ⟨⟨t', rfl, upd_same⟩, sm.trans (same_upd nt')⟩
      cases e0 : pkF (ps.take i) none with
      | none =>
        rw [e0] at hb eT
        have hb : bv = .non := hb
        subst hb
        refine ⟨_, rfl, rfl, _, rfl, iteT (iteT ⟨_, rfl, _, rfl, len2, fun t' nt' => ⟨_, _, _, rfl, (put t' nt' trivial).2, ?_⟩⟩)⟩
        rw [eT]; exact (put t' nt' trivial).1
      | some b =>
        rw [e0] at hb eT
        obtain ⟨pb, rfl, hpb⟩ := hb
        refine ⟨_, rfl, rfl, _, rfl, iteF ⟨_, rfl, _, rfl, pb, _, 1, _, rfl, rfl, sq_tup hpb, rfl, _, _, rfl, rfl, _, rfl, ite2 (fun h1 => ?_) (fun h1 => ?_)⟩⟩
        · have h1 : b.2 < a.2 := of_decide_eq_true h1
          refine ⟨_, rfl, _, rfl, len2, fun t' nt' => ⟨_, _, _, rfl, (put t' nt' trivial).2, ?_⟩⟩
          rw [eT]
          show BstV _ _ (some (if a.2 > b.2 then a else b))
          rw [if_pos h1]; exact (put t' nt' trivial).1
        · have h1 : ¬ b.2 < a.2 := fun z => h1 (decide_eq_true z)
          refine ⟨_, _, _, rfl, sm, ?_⟩
          rw [eT]
          show BstV _ _ (some (if a.2 > b.2 then a else b))
          rw [if_neg h1]; exact ⟨pb, rfl, hpb⟩
    · rintro σ H' ⟨bv, y3, y4, rfl, sm, hb⟩
      rw [pv2.len, List.take_length] at hb
      obtain ⟨m, M, e, pk⟩ := pkF_pk (ok.pos pt) (ok.ne pt) told
      rw [e] at hb
      obtain ⟨pb, rfl, hpb⟩ := hb
      exact ⟨_, rfl, q _ _ _ _ pk ((s1.trans s2).trans sm) hpb⟩
abbrev s_keeps_jobs : Stmt := topS 24
abbrev n_keeps_jobs : List Str := ["wish", "point", "size", "_", "needs"]
theorem sc_keeps_jobs : FnScope n_keeps_jobs ["wish", "point"] (defScope s_keeps_jobs) := ⟨rfl, rfl, rfl, by decide +kernel, rfl, by decide +kernel, by decide +kernel⟩
def spKeeps : Sp := fun vs H Q _ => ∃ (v v2 : V) (x : Wh) (pt : List Int), vs = [v, v2] ∧ WhV H v x ∧ LV H v2 pt ∧ WOk pt.length x ∧ 0 ≤ x.size ∧ ∀ b H', (b = true ↔ ∀ m, ld (sps x.jobs pt) m ≤ x.size) → Same H H' → Q (.bl b) H'
theorem ok_keeps_jobs {f : Addr} {fd : FuncData} (F : Fun K "_keeps_jobs" "_keeps_jobs" s_keeps_jobs f fd) (T : Txt K mg w aT es nn) (c_size_of : Cal P w K mg base 1 "size_of" spSize []) (c_job_spans : Cal P w K mg base 2 "job_spans" spSpans []) (c_needs_over_time : Cal P w K mg base 2 "needs_over_time" spOver []) : FnOk P w K mg base CX0 3 f fd ["wish", "point"] spKeeps := by
  refine F.ok sc_keeps_jobs (fun vs H Q E h => ?_) (fun cdv A outer s0 H vs Q E hr h => ?_)
  · obtain ⟨v, v2, x, pt, rfl, _⟩ := h
    rfl
  · obtain ⟨v, v2, x, pt, rfl, h, hpt, ok, hz, q⟩ := h
    refine ⟨_, (pss_cons (ps_set (i := 2) sc_keeps_jobs.nd rfl (.inr rfl) (pe_c c_size_of hr (by decide) (by rfl) (pa_cons (pv 0) pa_nil)))
      (pss_one (ps_ret (pe_callB (cr_all rfl) (by rfl) T.b_all (by decide +kernel) (pa_cons (pe_lc (own := [("_", 3), ("needs", 4)]) (g := (gTup K 2 (gCons (gName 3) (gCons (gName 4) gNil)))) rfl sc_keeps_jobs.nd (pi_tup (pe_c c_needs_over_time hr (by decide) (by rfl) (pa_cons (pe_c c_job_spans hr (by decide) (by rfl) (pa_cons (pv 0) (pa_cons (pv 1) pa_nil))) pa_nil))) (blkOk_by (N := n_keeps_jobs) (sc := defScope s_keeps_jobs) (by decide +kernel)) (fun _ _ _ _ _ => (pg_tup rfl (pgs_cons (pg_name (i := 3) sc_keeps_jobs.nd rfl (.inl rfl)) (pgs_cons (pg_name (i := 4) sc_keeps_jobs.nd rfl (.inl rfl)) pgs_nil)))) (fun _ _ _ _ _ => pts_nil) (fun _ _ _ _ _ => (pe_cmpR op_le (pv 4) (pv 2) (nomark _)))) pa_nil))))), ?_⟩
    have few := ok.few
    refine ⟨_, rfl, v, x, rfl, h, ?_⟩
    refine ⟨_, rfl, _, rfl, v, v2, x, pt, rfl, h, hpt, ok, fun p us H1 s1 np hp lv => ?_⟩
    refine ⟨p, us, _, rfl, hp, lv, ok.pos pt, by unfold sps; rw [List.length_map]; exact few, fun pq ys ps H2 s2 hpq pv2 told => ?_⟩
    refine ⟨pq, rfl, ⟨_, sq_tup hpq⟩, fun D nD => ?_⟩
    refine lc_tup (K := K) (a := pq) (xs := ys) (fun i H' => H' D = some (.lst (((ps.take i).map fun a => decide (a.2 ≤ x.size)).map V.bl)) ∧ Same H2 H') ⟨upd_same, same_upd nD⟩ (fun i H' _ h => sq_tup (h.2 _ _ hpq)) ?_ ?_
    · rintro i y H3 hy ⟨hD, sm⟩
      obtain ⟨a, ha, t, rfl, ht⟩ := pv2.at_ hy
      refine ⟨t, _, rfl, sq_tup (sm _ _ ht), rfl, _, _, rfl, _, _, rfl, rfl, rfl, ?_⟩
      have few2 := told.few
      have li : i < ps.length := (List.getElem?_eq_some_iff.mp ha).1
      have ls : (sps x.jobs pt).length = x.jobs.length := List.length_map ..
      refine ⟨_, rfl, _, rfl, _, _, rfl, rfl, _, hD, (by rw [List.length_map, List.length_map, List.length_take]; exact small1000 (by omega)), ?_, same_at sm nD⟩
      rw [upd_same, take_one ha, List.map_append, List.map_append]; rfl
    · rintro H3 ⟨hD, sm⟩
      rw [pv2.len, List.take_length] at hD
      refine ⟨D, _, rfl, sq_lst hD, q _ _ ?_ ((s1.trans s2).trans sm)⟩
      rw [← all_le (ok.pos pt) hz told.all, List.all_eq_true]
      constructor
      · intro h m hm
        obtain ⟨a, ha, rfl⟩ := List.mem_map.mp hm
        have := h _ (List.mem_map.mpr ⟨a, ha, rfl⟩)
        rw [← told.val a ha]
        exact of_decide_eq_true this
      · intro h b hb
        obtain ⟨a, ha, rfl⟩ := List.mem_map.mp hb
        have := h a.1 (List.mem_map.mpr ⟨a, ha, rfl⟩)
        rw [← told.val a ha] at this
        exact decide_eq_true this
/-- the keeper of the dict by its word -/
structure Kpr (P : Program) (w : World) (K : PySem.W.Frag) (mg : Str → Option Value) (base : Heap) (aT : Addr) (fJ : Addr) : Prop where
  j : Held P w K mg base 3 fJ spKeeps
  ib : KDct K w aT "bench" (.ref fJ)
  ir : KDct K w aT "room" (.ref fJ)
def kprs (fJ : Addr) (f : Addr) : Option Sp := if f = fJ then some spKeeps else none
abbrev s_keeps_wish : Stmt := topS 19
abbrev n_keeps_wish : List Str := ["wish", "point", "keeper"]
theorem sc_keeps_wish : FnScope n_keeps_wish ["wish", "point"] (defScope s_keeps_wish) := ⟨rfl, rfl, rfl, by decide +kernel, rfl, by decide +kernel, by decide +kernel⟩
theorem ok_keeps_wish {f fJ : Addr} {fd : FuncData} (F : Fun K "keeps_wish" "keeps_wish" s_keeps_wish f fd) (T : Txt K mg w aT es nn) (S : Kpr P w K mg base aT fJ) : FnOk P w K mg base CX0 4 f fd ["wish", "point"] spKeeps := by
  have ts : kprs fJ fJ = some spKeeps := if_pos rfl
  have AH : ∀ f sp, kprs fJ f = some sp → Held P w K mg base 3 f sp := fun f sp h => by
    by_cases e1 : f = fJ
    · subst e1; rw [ts] at h; cases h; exact S.j
    unfold kprs at h
    rw [if_neg e1] at h
    cases h
  refine F.ok sc_keeps_wish (fun vs H Q E h => ?_) (fun cdv A outer s H vs Q E hr h => ?_)
  · obtain ⟨v, v2, x, pt, rfl, _⟩ := h
    rfl
  · obtain ⟨v, v2, x, pt, rfl, h, rest⟩ := h
    refine ⟨_, (pss_cons (ps_set (i := 2) sc_keeps_wish.nd rfl (.inl rfl) (pe_ix ix_kdict (pe_gc (by rfl) T.c_KEEPERS) (pe_ix ix_tup (pv 0) pe_int (fun _ _ => rfl)) (fun _ _ => rfl)))
      (pss_one (ps_ret (pe_callA (i := 2) AH hr rfl (.inl rfl) (pa_cons (pv 0) (pa_cons (pv 1) pa_nil)))))), ?_⟩
    cases x with
    | bench js =>
      obtain ⟨p, pj, us, rfl, hp, hu, a⟩ := h
      refine ⟨_, rfl, p, _, 0, _, rfl, rfl, sq_tup hp, rfl, aT, "bench", _, rfl, rfl, S.ib, ?_⟩
      exact ⟨fJ, _, rfl, ts, _, rfl, _, rfl, .ref p, v2, .bench js, pt, rfl, ⟨p, pj, us, rfl, hp, hu, a⟩, rest⟩
    | room js z =>
      obtain ⟨p, pj, us, rfl, hp, hu, a⟩ := h
      refine ⟨_, rfl, p, _, 0, _, rfl, rfl, sq_tup hp, rfl, aT, "room", _, rfl, rfl, S.ir, ?_⟩
      exact ⟨fJ, _, rfl, ts, _, rfl, _, rfl, .ref p, v2, .room js z, pt, rfl, ⟨p, pj, us, rfl, hp, hu, a⟩, rest⟩
end
end M12

namespace M12
def busyB (t : Int) : Option Int → Bool
  | none => false
  | some m => decide (t < m)
def freeP (ff : List (Option Int)) (t : Int) (k : Nat) : Bool := !busyB t (ff.getD k none)
def freeI (ff : List (Option Int)) (t : Int) : List Nat := (List.range ff.length).filter (freeP ff t)
def setAll (ff : List (Option Int)) (ks : List Nat) (v : Int) : List (Option Int) := ks.foldl (fun a k => a.set k (some v)) ff
def seatRun (st en nd : Nat → Int) : List Nat → List (Option (List Nat)) → List (Option Int) → Option (List (Option (List Nat)))
  | [], fd, _ => some fd
  | k :: r, fd, ff => if ((freeI ff (st k)).length : Int) < nd k then none else
      seatRun st en nd r (fd.set k (some ((freeI ff (st k)).take (nd k).toNat))) (setAll ff ((freeI ff (st k)).take (nd k).toNat) (en k))
def sm (f : Nat → Int) : List Nat → Int
  | [] => 0
  | k :: r => f k + sm f r
theorem sm_app (f : Nat → Int) : ∀ a b : List Nat, sm f (a ++ b) = sm f a + sm f b
  | [], b => by simp [sm]
  | k :: a, b => by rw [List.cons_append, sm, sm, sm_app f a b]; omega
theorem sm_perm {f : Nat → Int} {a b : List Nat} (h : a.Perm b) : sm f a = sm f b := by
  induction h with
  | nil => rfl
  | cons x _ ih => rw [sm, sm, ih]
  | swap x y l => simp only [sm]; omega
  | trans _ _ i1 i2 => exact i1.trans i2
theorem sm_le {f g : Nat → Int} : ∀ {a : List Nat}, (∀ k ∈ a, f k ≤ g k) → sm f a ≤ sm g a
  | [], _ => Int.le_refl _
  | k :: a, h => by
    have h1 := h k (List.mem_cons_self ..)
    have h2 := sm_le (f := f) (g := g) (a := a) fun x hx => h x (List.mem_cons_of_mem _ hx)
    simp only [sm]; omega
theorem sm_nn {f : Nat → Int} {a : List Nat} (h : ∀ k ∈ a, 0 ≤ f k) : 0 ≤ sm f a := by
  have := sm_le (f := fun _ => 0) (g := f) (a := a) h
  have e : ∀ a : List Nat, sm (fun _ => 0) a = 0 := fun a => by induction a with
    | nil => rfl
    | cons x r ih => simp only [sm, ih]; rfl
  rw [e] at this; exact this
theorem free_cnt (ff : List (Option Int)) (t : Int) : ∀ i, i ≤ ff.length → ((List.range i).filter (freeP ff t)).length + (ff.take i).countP (busyB t) = i
  | 0, _ => by simp
  | i + 1, h => by
    have ih := free_cnt ff t i (by omega)
    have e : ff[i]? = some ff[i] := List.getElem?_eq_getElem (by omega)
    rw [List.range_succ, List.filter_append, List.take_add_one, e, List.countP_append, List.length_append]
    have : freeP ff t i = !busyB t ff[i] := by unfold freeP; rw [List.getD_eq_getElem?_getD, e]; rfl
    cases hb : busyB t ff[i]
    · simp [this, hb] at ih ⊢; omega
    · simp [this, hb] at ih ⊢; omega
theorem free_len (ff : List (Option Int)) (t : Int) : (freeI ff t).length + ff.countP (busyB t) = ff.length := by
  have := free_cnt ff t ff.length (Nat.le_refl _)
  rw [List.take_length] at this
  exact this
theorem free_mem {ff : List (Option Int)} {t : Int} {k : Nat} (h : k ∈ freeI ff t) : k < ff.length ∧ busyB t (ff.getD k none) = false := by
  obtain ⟨h1, h2⟩ := List.mem_filter.mp h
  refine ⟨List.mem_range.mp h1, ?_⟩
  unfold freeP at h2
  simpa using h2
theorem free_inc (ff : List (Option Int)) (t : Int) : (freeI ff t).Pairwise (· < ·) := List.pairwise_lt_range.filter _
theorem setAll_len (v : Int) : ∀ (ks : List Nat) (ff : List (Option Int)), (setAll ff ks v).length = ff.length
  | [], _ => rfl
  | k :: ks, ff => by
    show (setAll (ff.set k (some v)) ks v).length = _
    rw [setAll_len v ks, List.length_set]
theorem setAll_not (v : Int) : ∀ (ks : List Nat) (ff : List (Option Int)) (s : Nat), s ∉ ks → (setAll ff ks v)[s]? = ff[s]?
  | [], _, _, _ => rfl
  | k :: ks, ff, s, h => by
    show (setAll (ff.set k (some v)) ks v)[s]? = _
    have h1 : s ≠ k := fun z => h (by simp [z])
    have h2 : s ∉ ks := fun z => h (by simp [z])
    rw [setAll_not v ks _ s h2, List.getElem?_set_ne (Ne.symm h1)]
theorem setAll_in (v : Int) : ∀ (ks : List Nat) (ff : List (Option Int)) (s : Nat), s ∈ ks → s < ff.length → (setAll ff ks v)[s]? = some (some v)
  | k :: ks, ff, s, h, hl => by
    show (setAll (ff.set k (some v)) ks v)[s]? = _
    by_cases h2 : s ∈ ks
    · exact setAll_in v ks _ s h2 (by rw [List.length_set]; exact hl)
    · rw [setAll_not v ks _ s h2]
      rcases List.mem_cons.mp h with z | z
      · subst z; rw [List.getElem?_set_self hl]
      · exact absurd z h2
theorem setAll_cnt (v t : Int) : ∀ (ks : List Nat) (ff : List (Option Int)), ks.Nodup → (∀ s ∈ ks, s < ff.length ∧ busyB t (ff.getD s none) = false) → (setAll ff ks v).countP (busyB t) = ff.countP (busyB t) + (if t < v then ks.length else 0)
  | [], ff, _, _ => by simp [setAll]
  | k :: ks, ff, nd, h => by
    obtain ⟨n1, n2⟩ := List.nodup_cons.mp nd
    obtain ⟨h1, h2⟩ := h k (List.mem_cons_self ..)
    have e : ff[k]? = some ff[k] := List.getElem?_eq_getElem h1
    show (setAll (ff.set k (some v)) ks v).countP (busyB t) = _
    rw [setAll_cnt v t ks _ n2 fun s hs => ?_]
    · rw [List.countP_set h1]
      rw [List.getD_eq_getElem?_getD, e] at h2
      have h2 : busyB t ff[k] = false := h2
      rw [h2]
      have : busyB t (some v) = decide (t < v) := rfl
      rw [this]
      by_cases z : t < v
      · simp [z]; omega
      · simp [z]
    · obtain ⟨a, b⟩ := h s (List.mem_cons_of_mem _ hs)
      refine ⟨by rw [List.length_set]; exact a, ?_⟩
      have : s ≠ k := fun z => n1 (z ▸ hs)
      rw [List.getD_eq_getElem?_getD, List.getElem?_set_ne (Ne.symm this), ← List.getD_eq_getElem?_getD]
      exact b
/-- what is left behind when some have sat down -/
structure SI (st en nd : Nat → Int) (n Z : Nat) (P : List Nat) (fd : List (Option (List Nat))) (ff : List (Option Int)) : Prop where
  lf : ff.length = Z
  ld : fd.length = n
  sit : ∀ k ∈ P, ∃ S, fd[k]? = some (some S) ∧ (S.length : Int) = nd k ∧ S.Pairwise (· < ·) ∧ ∀ s ∈ S, s < Z ∧ ∃ m, ff[s]? = some (some m) ∧ en k ≤ m
  apart : ∀ k ∈ P, ∀ j ∈ P, k ≠ j → st k < en j → st j < en k → ∀ S S', fd[k]? = some (some S) → fd[j]? = some (some S') → ∀ s ∈ S, s ∉ S'
  cnt : ∀ t, (∀ k ∈ P, st k ≤ t) → (ff.countP (busyB t) : Int) = sm (fun k => if t < en k then nd k else 0) P
theorem SI.next {st en nd : Nat → Int} {n Z : Nat} {P : List Nat} {fd : List (Option (List Nat))} {ff : List (Option Int)} (h : SI st en nd n Z P fd ff) {k : Nat} (hk : k < n) (kP : k ∉ P) (lo : ∀ j ∈ P, st j ≤ st k) (len : st k < en k) (pos : 0 < nd k) (room : ¬ ((freeI ff (st k)).length : Int) < nd k) :
    SI st en nd n Z (P ++ [k]) (fd.set k (some ((freeI ff (st k)).take (nd k).toNat))) (setAll ff ((freeI ff (st k)).take (nd k).toNat) (en k)) := by
  have fm : ∀ s ∈ (freeI ff (st k)).take (nd k).toNat, s < ff.length ∧ busyB (st k) (ff.getD s none) = false := fun s hs => free_mem (List.mem_of_mem_take hs)
  have inc : ((freeI ff (st k)).take (nd k).toNat).Pairwise (· < ·) := (free_inc ff (st k)).take
  have ln : (((freeI ff (st k)).take (nd k).toNat).length : Int) = nd k := by rw [List.length_take]; omega
  generalize (freeI ff (st k)).take (nd k).toNat = S at *
  have nodup : S.Nodup := inc.imp fun h => Nat.ne_of_lt h
  have later : ∀ s ∈ S, ∀ m, ff[s]? = some (some m) → m ≤ st k := fun s hs m hm => by
    have := (fm s hs).2
    rw [List.getD_eq_getElem?_getD, hm] at this
    have : decide (st k < m) = false := this
    have := of_decide_eq_false this
    omega
  refine ⟨by rw [setAll_len]; exact h.lf, by rw [List.length_set]; exact h.ld, fun j hj => ?_, fun j hj i hi ne o1 o2 S1 S2 e1 e2 s hs hs2 => ?_, fun t ht => ?_⟩
  · rcases List.mem_append.mp hj with hj | hj
    · obtain ⟨S', e, l, p, m⟩ := h.sit j hj
      have jk : j ≠ k := fun z => kP (z ▸ hj)
      refine ⟨S', by rw [List.getElem?_set_ne (Ne.symm jk)]; exact e, l, p, fun s hs => ⟨(m s hs).1, ?_⟩⟩
      obtain ⟨hz, x, hx, hle⟩ := m s hs
      by_cases z : s ∈ S
      · have := later s z x hx
        exact ⟨_, setAll_in _ _ _ s z (by rw [h.lf]; exact hz), by omega⟩
      · exact ⟨x, by rw [setAll_not _ _ _ s z]; exact hx, hle⟩
    · have hj := List.mem_singleton.mp hj
      subst hj
      refine ⟨S, by rw [List.getElem?_set_self (by rw [h.ld]; exact hk)], ln, inc, fun s hs => ⟨by rw [← h.lf]; exact (fm s hs).1, _, setAll_in _ _ _ s hs (fm s hs).1, Int.le_refl _⟩⟩
  · have new : ∀ i ∈ P, st k < en i → ∀ S', fd[i]? = some (some S') → ∀ s ∈ S, s ∉ S' := fun i hi o S' e s hs hs' => by
      obtain ⟨S0, e0, _, _, m⟩ := h.sit i hi
      rw [e] at e0
      have : S' = S0 := Option.some.inj (Option.some.inj e0)
      subst this
      obtain ⟨_, x, hx, hle⟩ := m s hs'
      have := later s hs x hx
      omega
    rcases List.mem_append.mp hj with a1 | a1 <;> rcases List.mem_append.mp hi with b1 | b1
    · have jk : j ≠ k := fun z => kP (z ▸ a1)
      have ik : i ≠ k := fun z => kP (z ▸ b1)
      rw [List.getElem?_set_ne (Ne.symm jk)] at e1
      rw [List.getElem?_set_ne (Ne.symm ik)] at e2
      exact h.apart j a1 i b1 ne o1 o2 S1 S2 e1 e2 s hs hs2
    · have b2 := List.mem_singleton.mp b1
      subst b2
      have jk : j ≠ i := ne
      rw [List.getElem?_set_ne (Ne.symm jk)] at e1
      rw [List.getElem?_set_self (by rw [h.ld]; exact hk)] at e2
      have : S = S2 := Option.some.inj (Option.some.inj e2)
      subst this
      exact new j a1 o2 S1 e1 s hs2 hs
    · have a2 := List.mem_singleton.mp a1
      subst a2
      have jk : i ≠ j := Ne.symm ne
      rw [List.getElem?_set_ne (Ne.symm jk)] at e2
      rw [List.getElem?_set_self (by rw [h.ld]; exact hk)] at e1
      have : S = S1 := Option.some.inj (Option.some.inj e1)
      subst this
      exact new i b1 o1 S2 e2 s hs hs2
    · exact ne ((List.mem_singleton.mp a1).trans (List.mem_singleton.mp b1).symm)
  · have tk : st k ≤ t := ht k (by simp)
    rw [setAll_cnt _ t S ff nodup fun s hs => ⟨(fm s hs).1, ?_⟩, sm_app, ← h.cnt t fun j hj => ht j (by simp [hj])]
    · simp only [sm]
      by_cases z : t < en k
      · rw [if_pos z, if_pos z]; omega
      · rw [if_neg z, if_neg z]; omega
    · have := (fm s hs).2
      cases hx : ff.getD s none with
      | none => rfl
      | some m =>
        rw [hx] at this
        have : decide (st k < m) = false := this
        have := of_decide_eq_false this
        exact decide_eq_false (by omega)
/-- all sit down exactly if the loads are within the seats -/
theorem run_ok {st en nd : Nat → Int} {n Z : Nat} (len : ∀ k, k < n → st k < en k) (pos : ∀ k, k < n → 0 < nd k) : ∀ (r P : List Nat) (fd : List (Option (List Nat))) (ff : List (Option Int)), SI st en nd n Z P fd ff → (P ++ r).Nodup → (∀ k ∈ P ++ r, k < n) → (P ++ r).Pairwise (fun a b => st a ≤ st b) →
    (∀ m, sm (fun k => if st k ≤ m ∧ m < en k then nd k else 0) P ≤ Z) →
    (∀ fd', seatRun st en nd r fd ff = some fd' → (∃ ff', SI st en nd n Z (P ++ r) fd' ff') ∧ ∀ m, sm (fun k => if st k ≤ m ∧ m < en k then nd k else 0) (P ++ r) ≤ Z) ∧
    ((∀ m, sm (fun k => if st k ≤ m ∧ m < en k then nd k else 0) (P ++ r) ≤ Z) → seatRun st en nd r fd ff ≠ none)
  | [], P, fd, ff, h, _, _, _, hP => by
    rw [List.append_nil]
    refine ⟨fun fd' e => ?_, fun _ z => by cases z⟩
    have e : some fd = some fd' := e
    cases e
    exact ⟨⟨ff, h⟩, hP⟩
  | k :: r, P, fd, ff, h, nodup, lt, srt, hP => by
    have hk : k < n := lt k (by simp)
    have kP : k ∉ P := fun z => by
      have := (List.nodup_append.mp nodup).2.2 k z k (by simp)
      exact this rfl
    have lo : ∀ j ∈ P, st j ≤ st k := fun j hj => (List.pairwise_append.mp srt).2.2 j hj k (by simp)
    have ap : P ++ k :: r = (P ++ [k]) ++ r := by simp
    have fl := free_len ff (st k)
    have ct := h.cnt (st k) lo
    have lf := h.lf
    have lenk := len k hk
    have posk := pos k hk
    show (∀ fd', (if ((freeI ff (st k)).length : Int) < nd k then none else _) = some fd' → _) ∧ (_ → (if ((freeI ff (st k)).length : Int) < nd k then none else _) ≠ none)
    by_cases room : ((freeI ff (st k)).length : Int) < nd k
    · rw [if_pos room]
      refine ⟨fun _ z => (nomatch z), fun hz => ?_⟩
      exfalso
      have h1 := hz (st k)
      rw [ap, sm_app, sm_app] at h1
      have h2 : 0 ≤ sm (fun k_1 => if st k_1 ≤ st k ∧ st k < en k_1 then nd k_1 else 0) r := sm_nn fun j hj => by
        have := pos j (lt j (by simp [hj]))
        split <;> omega
      have h3 : sm (fun k_1 => if st k_1 ≤ st k ∧ st k < en k_1 then nd k_1 else 0) [k] = nd k := by
        simp only [sm]; rw [if_pos ⟨Int.le_refl _, lenk⟩]; omega
      have h4 : sm (fun j => if st k < en j then nd j else 0) P ≤ sm (fun j => if st j ≤ st k ∧ st k < en j then nd j else 0) P := sm_le fun j hj => by
        have := lo j hj
        split
        · rw [if_pos ⟨this, by assumption⟩]; exact Int.le_refl _
        · rw [if_neg (fun z => by have := z.2; contradiction)]; exact Int.le_refl _
      omega
    · rw [if_neg room, ap]
      refine run_ok len pos r (P ++ [k]) _ _ (h.next hk kP lo lenk posk room) (by rw [← ap]; exact nodup) (by rw [← ap]; exact lt) (by rw [← ap]; exact srt) fun m => ?_
      rw [sm_app]
      simp only [sm]
      by_cases z : st k ≤ m ∧ m < en k
      · rw [if_pos z]
        have h4 : sm (fun j => if st j ≤ m ∧ m < en j then nd j else 0) P ≤ sm (fun j => if st k < en j then nd j else 0) P := sm_le fun j hj => by
          have := pos j (lt j (by simp [hj]))
          split
          · rename_i q
            rw [if_pos (by omega)]; exact Int.le_refl _
          · split <;> omega
        omega
      · rw [if_neg z]
        have := hP m
        omega
end M12

namespace M12
open PySem PySem.Spec PyProof.Rows L2 SX Own Gd
open C8 (Cal pe_c pe_gc pe_mk Mak pss_cut)
theorem _root_.Own.FunC.okX {P : Program} {w : World} {K : PySem.W.Frag} {mg : Str → Option Value} {base : Heap} {x qual : Str} {st : Stmt} {f c : Addr} {fd : FuncData} {N ps : List Str} {k : Nat} {sp : Sp} (F : FunC K x qual st f fd c) (S : FnScope N ps (defScope st)) (len : ∀ vs H Q E, sp vs H Q E → vs.length = ps.length)
    (body : ∀ (A : Around) (outer : List Env) (s : Shared) (H : Hp) (vs : List V) (Q : VK) (E : XK), Room k (A.deeper (envOfC qual (defScope st) s.heap.objs.size f (.ref c))) → sp vs H Q E →
      ∃ t, PSs (cxOf (L2.CX P w) P w K mg base N qual (defScope st) f (.ref c) A outer s H E) (defBody st) t ∧ t { nx := fun _ H' => Q .non H', rt := Q } (L2.start N vs) H) : FnOk P w K mg base (L2.CX P w) (k + 1) f fd ps sp := by
  obtain ⟨oc, od, kV, doc, pm, an, ct, osl, rfl, lk, hcd⟩ := F.ex
  exact fn_of lk hcd S len fun A outer s H vs Q E hr hsp => body A outer s H vs Q E hr hsp
theorem TK.ext {H H' : Hp} (s : LamX.ExtN H H') : TK H H' := fun a xs e => s _ _ e (fun ps z => by cases z)
/-! ### seats -/
def jAt (js : List Jb) (k : Nat) : Jb := js.getD k (0, 0, 0)
def stF (js : List Jb) (pt : List Int) (k : Nat) : Int := pt.getD (jAt js k).1 0
def enF (js : List Jb) (pt : List Int) (k : Nat) : Int := stF js pt k + (jAt js k).2.1
def ndF (js : List Jb) (k : Nat) : Int := (jAt js k).2.2
structure OrdOk (st : Nat → Int) (n : Nat) (ord : List Nat) : Prop where
  pm : ord.Perm (List.range n)
  inc : ord.Pairwise fun a b => st a < st b ∨ (st a = st b ∧ a ≤ b)
def seatsF (x : Wh) (pt : List Int) (ord : List Nat) : Option (List (Option (List Nat))) :=
  seatRun (stF x.jobs pt) (enF x.jobs pt) (ndF x.jobs) ord (List.replicate x.jobs.length none) (List.replicate x.size.toNat none)
def SeatV (H : Hp) (v : V) : Option (List Nat) → Prop
  | none => v = .non
  | some S => LV H v (natI S)
theorem SeatV.tk {H H' : Hp} {v : V} {o : Option (List Nat)} (h : SeatV H v o) (s : TK H H') : SeatV H' v o := by
  cases o with
  | none => exact h
  | some S => exact LV.tk h s
theorem all2_rep {H : Hp} : ∀ n, All2 (SeatV H) (List.replicate n .non) (List.replicate n none)
  | 0 => .nil
  | n + 1 => .cons rfl (all2_rep n)
theorem All2.set {α : Type} {R : V → α → Prop} {v : V} {a : α} (h : R v a) : ∀ {vs : List V} {as : List α} (k : Nat), All2 R vs as → All2 R (vs.set k v) (as.set k a)
  | _, _, _, .nil => .nil
  | _, _, 0, .cons _ t => .cons h t
  | _, _, k + 1, .cons g t => .cons g (t.set h k)
def ffV : Option Int → V
  | none => .non
  | some m => .int m
def spSeats (T : List (Addr × Str)) (CR : Addr) : Sp := fun vs H Q E => ∃ (v v2 : V) (x : Wh) (pt : List Int), vs = [v, v2] ∧ WhV H v x ∧ LV H v2 pt ∧ WOk pt.length x ∧ 0 ≤ x.size ∧ LamX.Tabs T H ∧
  (1000 < x.size → ∀ d H', Same H H' → H' d = some (.xd [("word", .str "size")]) → E (.ref CR) (some d) H') ∧
  (x.size ≤ 1000 → ∀ ord, OrdOk (stF x.jobs pt) x.jobs.length ord → (seatsF x pt ord = none → ∀ H', LamX.ExtN H H' → LamX.Tabs T H' → Q .non H') ∧
    ∀ fd, seatsF x pt ord = some fd → ∀ p us H', LamX.ExtN H H' → LamX.Tabs T H' → H' p = some (.tup us) → All2 (SeatV H') us fd → Q (.ref p) H')
theorem extP {H H' : Hp} {p : Addr} {o : HO} (s : LamX.ExtN H H') (n : H p = none) : LamX.ExtN H (upd H' p o) := fun b u e q => by
  rw [upd_ne (ne_of_none e n)]; exact s b u e q
theorem repf (n : Nat) (v : V) : (List.replicate n [v]).flatten = List.replicate n v := by
  induction n with
  | zero => rfl
  | succ n ih => rw [List.replicate_succ, List.flatten_cons, ih, List.replicate_succ]; rfl
theorem cut_to {l : List V} {d : Int} (h : 0 ≤ d) : cutV l none (some d) = l.take d.toNat := by
  obtain ⟨k, rfl⟩ := Int.eq_ofNat_of_zero_le h
  unfold cutV
  rw [HT.sIx_none, show HT.sIx l.length l.length (some (k : Int)) = min k l.length from HT.sIx_nat _ _ k, List.drop_zero, Nat.sub_zero, Int.toNat_natCast]
  by_cases h : k ≤ l.length
  · rw [Nat.min_eq_left h]
  · rw [Nat.min_eq_right (by omega), List.take_length, List.take_of_length_le (by omega)]
theorem ixN_nat {n k : Nat} (h : k < n) : ixN n (k : Int) = some k := by
  unfold ixN
  rw [if_pos (by omega), if_pos (by omega)]; simp
theorem tabs_put {T : List (Addr × Str)} {H : Hp} {l : Addr} {xs : List V} {o : HO} (t : LamX.Tabs T H) (e : H l = some (.lst xs)) : LamX.Tabs T (upd H l o) := fun p hp => by
  obtain ⟨ps, h1, h2, h3⟩ := t p hp
  refine ⟨ps, by rw [upd_ne (fun z => by rw [z, e] at h1; cases h1)]; exact h1, h2, fun pos cv hc => ?_⟩
  obtain ⟨c, e1, e2⟩ := h3 pos cv hc
  exact ⟨c, e1, by rw [upd_ne (fun z => by rw [z, e] at e2; exact codeO_lst (Option.some.inj e2).symm)]; exact e2⟩
theorem jAt_at {js : List Jb} {k : Nat} {j : Jb} (h : js[k]? = some j) : jAt js k = j := by unfold jAt; rw [List.getD_eq_getElem?_getD, h]; rfl
def keyF (js : List Jb) (pt : List Int) (i : Int) : PyData := .tuple [.int (stF js pt i.toNat), .int i]
def sortF (js : List Jb) (pt : List Int) : List Int := ((List.range js.length).map Int.ofNat).mergeSort (PySem.W.dataLe false (keyF js pt))
theorem sortF_ord (js : List Jb) (pt : List Int) : ∃ ord : List Nat, sortF js pt = natI ord ∧ OrdOk (stF js pt) js.length ord := by
  have pm : (sortF js pt).Perm ((List.range js.length).map Int.ofNat) := List.mergeSort_perm _ _
  have le : PySem.W.dataLe false (keyF js pt) = fun p q => decide (stF js pt p.toNat < stF js pt q.toNat ∨ (stF js pt p.toNat = stF js pt q.toNat ∧ p ≤ q)) := PySem.W.dataLe_ii (β := Int) (fun i : Int => stF js pt i.toNat) (fun i : Int => i)
  have so : (sortF js pt).Pairwise fun p q => PySem.W.dataLe false (keyF js pt) p q = true := List.pairwise_mergeSort (fun a b c h1 h2 => by
    rw [le] at *
    simp only [decide_eq_true_eq] at *
    omega) (fun a b => by
    rw [le]
    simp only [Bool.or_eq_true, decide_eq_true_eq]
    omega) _
  have nn : ∀ i ∈ sortF js pt, 0 ≤ i := fun i hi => by
    obtain ⟨k, _, rfl⟩ := List.mem_map.mp (pm.mem_iff.mp hi)
    exact Int.natCast_nonneg k
  refine ⟨(sortF js pt).map Int.toNat, ?_, ?_, ?_⟩
  · unfold natI
    rw [List.map_map]
    conv => lhs; rw [← List.map_id (sortF js pt)]
    refine List.map_congr_left fun i hi => ?_
    have := nn i hi
    show i = ((i.toNat : Nat) : Int)
    omega
  · have := pm.map Int.toNat
    rw [List.map_map] at this
    have e : (List.range js.length).map (Int.toNat ∘ Int.ofNat) = List.range js.length := by
      conv => rhs; rw [← List.map_id (List.range js.length)]
      exact List.map_congr_left fun _ _ => rfl
    rw [e] at this; exact this
  · rw [List.pairwise_map]
    refine List.Pairwise.imp_of_mem (fun {a b} ha hb h => ?_) so
    have na := nn a ha
    have nb := nn b hb
    rw [le] at h
    have := of_decide_eq_true h
    omega
section
variable {P : Program} {w : World} {K : PySem.W.Frag} {mg : Str → Option Value} {base : Heap} {aT : Addr} {es : Array DictEntry} {nn : Nat}
abbrev s_seats : Stmt := topS 15
abbrev n_seats : List Str := ["wish", "point", "size", "found", "free_from", "job", "place", "length", "need", "start", "seat", "free", "jobs", "moment"]
theorem sc_seats : FnScope n_seats ["wish", "point"] (defScope s_seats) := ⟨rfl, rfl, rfl, by decide +kernel, rfl, by decide +kernel, by decide +kernel⟩
abbrev qS : Str := (envOfC "seats" (defScope s_seats) 0 0 .none).qual ++ "<lambda>"
theorem ok_seats {f c PA CR : Addr} {T0 : List (Addr × Str)} {fd : FuncData} (F : FunC K "seats" "seats" s_seats f fd c) (TB : LamX.TabB base mg c PA) (HM : (PA, qS) ∈ T0) (HU : ∀ p ∈ T0, p.1 = PA → p.2 = qS) (T : Txt K mg w aT es nn) (e_Refused : ExK P w K mg base "Refused" CR) (c_size_of : Cal P w K mg base 1 "size_of" spSize []) (c_jobs_of : Cal P w K mg base 1 "jobs_of" spJobsOf []) : FnOk P w K mg base (L2.CX P w) 9 f fd ["wish", "point"] (spSeats T0 CR) := by
  refine F.okX sc_seats (fun vs H Q E h => ?_) (fun A outer s0 H vs Q E hr h => ?_)
  · obtain ⟨v, v2, x, pt, rfl, _⟩ := h
    rfl
  · obtain ⟨v, v2, x, pt, rfl, h, ⟨pp, rfl, hpp⟩, ok, hz, tt, qr, q⟩ := h
    refine ⟨_, (pss_cons (ps_set (i := 2) sc_seats.nd rfl (.inl rfl) (pe_c c_size_of hr (by decide) (by rfl) (pa_cons (pv 0) pa_nil)))
      (pss_cons (ps_if (pt_cmpR op_gt (pv 2) (pe_gc (by rfl) T.c_MOST_SEATS) (nomark _)) (pss_one (ps_raiseE rfl (takes_of rfl rfl rfl rfl) e_Refused hr (by decide) (by rfl) pe_str)) pss_nil)
      (pss_cons (ps_set (i := 12) sc_seats.nd rfl (.inr rfl) (pe_c c_jobs_of hr (by decide) (by rfl) (pa_cons (pv 0) pa_nil)))
      (pss_cons (ps_set (i := 3) sc_seats.nd rfl (.inl rfl) (pe_op op_rep (pe_lst (pa_cons pe_non pa_nil)) (pe_callB call_len_seq (by rfl) T.b_len (by decide +kernel) (pa_cons (pv 12) pa_nil))))
      (pss_cut (ps_set (i := 4) sc_seats.nd rfl (.inl rfl) (pe_op op_rep (pe_lst (pa_cons pe_non pa_nil)) (pv 2)))
      (pss_cons (ps_for (passes_of rfl) rfl (pi_list (SrK.pe_sortL (j := 4) (a := "at") (T := T0) (pe_callTy SrK.cr_range1 (by rfl) T.b_range (by decide +kernel) (pa_cons (pe_callB call_len_seq (by rfl) T.b_len (by decide +kernel) (pa_cons (pv 12) pa_nil)) pa_nil)) (by rfl) T.b_sorted TB rfl HM HU (hr.mono (by decide)) (SrK.lamP_by (sc := defScope s_seats) (by decide +kernel)) (show ¬ (("at" : Str) ∈ n_seats) by decide +kernel) rfl (fun _ _ _ _ _ _ => rfl) (fun s' H' f' c' hr' => pe_tup (pa_cons (pe_ix (r := rIxT K) ix_tup (pv 2) (pe_ix (r := rIxT K) ix_tup (pe_ix (r := rIxT K) ix_tup (pv 13) (pv 0) (fun _ _ => rfl)) pe_int (fun _ _ => rfl)) (fun _ _ => rfl)) (pa_cons (pv 0) pa_nil))))) (pg_name (i := 5) sc_seats.nd rfl (.inl rfl)) (pss_cons (ps_asg (pe_ix ix_tup (pv 12) (pv 5) (fun _ _ => rfl)) (pg_tup rfl (pgs_cons (pg_name (i := 6) sc_seats.nd rfl (.inl rfl)) (pgs_cons (pg_name (i := 7) sc_seats.nd rfl (.inl rfl)) (pgs_cons (pg_name (i := 8) sc_seats.nd rfl (.inl rfl)) pgs_nil)))))
        (pss_cons (ps_set (i := 9) sc_seats.nd rfl (.inr rfl) (pe_ix ix_tup (pv 1) (pv 6) (fun _ _ => rfl)))
        (pss_cut (ps_setLc (i := 11) (own := [("seat", 10), ("moment", 13)]) (g := (gTup K 2 (gCons (gName 10) (gCons (gName 13) gNil)))) rfl sc_seats.nd rfl rfl (sw_true rfl rfl rfl (by decide +kernel)) (pi_enum (by rfl) T.b_enumerate (pa_cons (pv 4) pa_nil)) (blkOk_by (N := n_seats) (sc := defScope s_seats) (by decide +kernel)) (fun _ _ _ _ _ => (pg_tup rfl (pgs_cons (pg_name (i := 10) sc_seats.nd rfl (.inl rfl)) (pgs_cons (pg_name (i := 13) sc_seats.nd rfl (.inl rfl)) pgs_nil)))) (fun _ _ _ _ _ => (pts_one (PW.pt (pw_or (pt_cmpR op_isN (pv 13) pe_non (nomark _)) (pw_or1 (pt_cmpR op_le (pv 13) (pv 9) (nomark _))))))) (fun _ _ _ _ _ => (pv 10)))
        (pss_cons (ps_if (pt_cmpR op_lt (pe_callB call_len_seq (by rfl) T.b_len (by decide +kernel) (pa_cons (pv 11) pa_nil)) (pv 8) (nomark _)) (pss_one (ps_ret pe_non)) pss_nil)
        (pss_cons (ps_asg (pe_callTy call_tuple_of (by rfl) T.b_tuple (by decide +kernel) (pa_cons (pe_slice sl_list (pv 11) po_none (po_some (pv 8))) pa_nil)) (pg_sub (pv 3) (pv 5) set_list))
        (pss_one (ps_for (passes_of rfl) rfl (pi_tup (pe_ix ix_list (pv 3) (pv 5) (fun _ _ => rfl))) (pg_name (i := 10) sc_seats.nd rfl (.inl rfl)) (pss_one (ps_asg (pe_op op_add (pv 9) (pv 7)) (pg_sub (pv 4) (pv 10) set_list)))))))))))
      (pss_one (ps_ret (pe_callTy call_tuple_of (by rfl) T.b_tuple (by decide +kernel) (pa_cons (pv 3) pa_nil)))))))))), ?_⟩
    have few := ok.few

    refine ⟨_, rfl, v, x, rfl, h, ?_⟩
    refine ⟨_, rfl, _, _, rfl, rfl, _, rfl, ite2 (fun h1 => mkE_of e_Refused.oex e_Refused.noW fun d H2 s2 ed => qr (of_decide_eq_true h1) d H2 s2 ed) (fun h1 => ?_)⟩
    have z1000 : x.size ≤ 1000 := by
      have : ¬ (1000 : Int) < x.size := fun z => h1 (decide_eq_true z)
      omega
    have q := q z1000
    refine ⟨_, rfl, v, x, rfl, h, by omega, fun pj us H1 s1 hpj lv => ?_⟩
    have lus := lv.len
    refine ⟨by show 1 ≤ sizeLine; rw [sizeLine_eq]; omega, fun l1 nl1 => ?_⟩
    have a1 : Same H1 (upd H1 l1 (.lst [.non])) := same_upd nl1
    refine ⟨_, rfl, pj, us, rfl, .inr (sq_tup (a1 _ _ hpj)), l1, (us.length : Int), [.non], rfl, rfl, upd_same, by omega, by omega, by show 1 * (us.length : Int).toNat ≤ _; rw [sizeLine_eq]; omega, fun pf npf => ?_⟩
    have a2 := a1.trans (same_upd (o := .lst (List.replicate (us.length : Int).toNat [V.non]).flatten) npf)
    have hpf : upd (upd H1 l1 (.lst [.non])) pf (.lst (List.replicate (us.length : Int).toNat [V.non]).flatten) pf = some (.lst (List.replicate x.jobs.length .non)) := by
      rw [upd_same, repf, lus]; rfl
    have n1f : H1 pf = none := a1.free npf
    generalize upd (upd H1 l1 (.lst [.non])) pf (.lst (List.replicate (us.length : Int).toNat [V.non]).flatten) = H2 at *
    have n0f : H pf = none := s1.free n1f
    have s02 := s1.trans a2
    refine ⟨fun σ H' => ∃ pq, σ = [some v, some (.ref pp), some (.int x.size), some (.ref pf), some (.ref pq), none, none, none, none, none, none, none, some (.ref pj), none] ∧ Same H H' ∧ H' pj = some (.tup us) ∧ All2 (JV H') us x.jobs ∧ pf ≠ pq ∧ H pf = none ∧ H pq = none ∧ H' pf = some (.lst (List.replicate x.jobs.length .non)) ∧ H' pq = some (.lst (List.replicate x.size.toNat .non)), ?_, fun σ H3 hM => ?_⟩
    · refine ⟨by show 1 ≤ sizeLine; rw [sizeLine_eq]; omega, fun l2 nl2 => ?_⟩
      have a3 : Same H2 (upd H2 l2 (.lst [.non])) := same_upd nl2
      refine ⟨_, rfl, l2, x.size, [.non], rfl, rfl, upd_same, by omega, by omega, by show 1 * x.size.toNat ≤ _; rw [sizeLine_eq]; omega, fun pq npq => ?_⟩
      have a4 := a3.trans (same_upd (o := .lst (List.replicate x.size.toNat [V.non]).flatten) npq)
      have n2q : H2 pq = none := a3.free npq
      have sX := s02.trans a4
      refine ⟨pq, rfl, sX, (a2.trans a4) _ _ hpj, jsTk (TK.of (a2.trans a4)) lv, fun z => ?_, n0f, s02.free n2q, a4 _ _ hpf, by rw [upd_same, repf]⟩
      rw [← z, hpf] at n2q
      cases n2q
    obtain ⟨pq, rfl, s03, hpj, lv, nfq, nf, nq, hpf, hpq⟩ := hM
    refine ⟨_, rfl, pj, us, rfl, .inr (sq_tup hpj), us.length, rfl, fun r nr => ?_⟩
    have s4 := same_upd (o := .rng 0 (us.length : Int)) nr
    refine ⟨_, .rng us.length upd_same (by omega), fun p hp => ((tt p hp).ext s03).ext s4, fun H5 e5 t5 => ⟨keyF x.jobs pt, PySem.W.AllAlike.of fun _ _ => by simp [keyF, PySem.W.alike, PySem.W.alikeAll], PySem.W.Sortable.tuples fun _ => ⟨_, _, rfl⟩, fun d hd => ?_, fun i hi H6 s6 => ?_, fun H6 ps s6 nps => ?_⟩⟩
    · obtain ⟨i, _, rfl⟩ := List.mem_map.mp hd
      simp [keyF, PyData.depth, PyData.depthAll]
    · obtain ⟨k, hk, rfl⟩ := List.mem_map.mp hi
      have hk : k < us.length := List.mem_range.mp hk
      have e56 := e5.trans (ext_of s6)
      have e46 := (ext_of s4).trans e56
      obtain ⟨j, hj, pj', euk, hpj'⟩ := lv.at_ (List.getElem?_eq_getElem hk)
      have mj := List.mem_of_getElem? hj
      have huk : us[k]? = some (.ref pj') := by rw [List.getElem?_eq_getElem hk, euk]
      have tk := TK.ext e46
      refine ⟨_, rfl, _, rfl, _, rfl, pj, us, (k : Int), _, rfl, rfl, sq_tup (tk _ _ hpj), atI_nat huk, pj', _, 0, _, rfl, rfl, sq_tup (tk _ _ hpj'), rfl, pp, _, (j.1 : Int), _, rfl, rfl, sq_tup (tk _ _ ((TK.of s03) _ _ hpp)), atI_nat (ptAt (ok.pl j mj)), _, rfl, len2, fun t nt => ⟨same_upd nt, ?_⟩⟩
      have es : stF x.jobs pt k = pt.getD j.1 0 := by unfold stF; rw [jAt_at hj]
      refine .tup (sq_tup upd_same) (.cons ?_ (.cons (.int _) .nil))
      show Dp _ _ _ (.int (stF x.jobs pt k))
      rw [es]; exact .int _
    have e36 := ((ext_of s4).trans e5).trans (ext_of s6)
    have t6 : LamX.Tabs T0 H6 := fun p hp => (t5 p hp).ext s6
    obtain ⟨ord, eo, oo⟩ := sortF_ord x.jobs pt
    rw [show (((List.range us.length).map Int.ofNat).mergeSort (PySem.W.dataLe false (keyF x.jobs pt))) = natI ord from by rw [lus]; exact eo]
    have k7 := same_upd (o := .lst ((natI ord).map V.int)) nps
    have t7 : LamX.Tabs T0 (upd H6 ps (.lst ((natI ord).map V.int))) := fun p hp => (t6 p hp).ext k7
    have e37 := e36.trans (ext_of k7)
    have hps : upd H6 ps (.lst ((natI ord).map V.int)) ps = some (.lst ((natI ord).map V.int)) := upd_same
    have hpf6 := e36 _ _ hpf (fun _ z => by cases z)
    have hpq6 := e36 _ _ hpq (fun _ z => by cases z)
    have ne1 : ps ≠ pf := (ne_of_none hpf6 nps).symm
    have ne2 : ps ≠ pq := (ne_of_none hpq6 nps).symm
    have hpf7 := k7 _ _ hpf6
    have hpq7 := k7 _ _ hpq6
    have e07 := (ext_of s03).trans e37
    clear hpf6 hpq6 t6 e36 s6 t5 e5
    generalize upd H6 ps (.lst ((natI ord).map V.int)) = H7 at *
    have q := q ord oo
    refine ⟨ps, rfl, ⟨_, sq_lst hps⟩, for_list (K := K) (a := ps) (xs := (natI ord).map V.int) (fun i σ H' => ∃ y5 y6 y7 y8 y9 y10 y11 y13 fdl ffl us', σ = [some v, some (.ref pp), some (.int x.size), some (.ref pf), some (.ref pq), y5, y6, y7, y8, y9, y10, y11, some (.ref pj), y13] ∧
        LamX.ExtN H H' ∧ LamX.Tabs T0 H' ∧ TK H7 H' ∧ H' ps = some (.lst ((natI ord).map V.int)) ∧ H' pf = some (.lst us') ∧ All2 (SeatV H') us' fdl ∧ H' pq = some (.lst (ffl.map ffV)) ∧ fdl.length = x.jobs.length ∧ ffl.length = x.size.toNat ∧ seatsF x pt ord = seatRun (stF x.jobs pt) (enF x.jobs pt) (ndF x.jobs) (ord.drop i) fdl ffl)
      ⟨none, none, none, none, none, none, none, none, List.replicate x.jobs.length none, List.replicate x.size.toNat none, _, rfl, e07, t7, TK.refl _, hps, hpf7, all2_rep _, by rw [List.map_replicate]; exact hpq7, List.length_replicate, List.length_replicate, rfl⟩ (fun i σ H' _ h => by obtain ⟨_, _, _, _, _, _, _, _, _, _, _, _, _, _, _, hk, _⟩ := h; exact sq_lst hk) ?_ ?_⟩
    · rintro i x1 σ H' hx ⟨y5, y6, y7, y8, y9, y10, y11, y13, fdl, ffl, us', rfl, ex, tb, tk, hs', hf', fv, hq', lfd, lff, run⟩
      obtain ⟨kI, hkI, rfl⟩ := at_map hx
      unfold natI at hkI
      rw [List.getElem?_map] at hkI
      obtain ⟨k, hk, rfl⟩ := Option.map_eq_some_iff.mp hkI
      have kn : k < x.jobs.length := List.mem_range.mp (oo.pm.mem_iff.mp (List.mem_of_getElem? hk))
      obtain ⟨j, hj, pj', euk, hpj'⟩ := lv.at_ (List.getElem?_eq_getElem (by omega : k < us.length))
      have mj := List.mem_of_getElem? hj
      have huk : us[k]? = some (.ref pj') := by rw [List.getElem?_eq_getElem (by omega), euk]
      have tk3 : TK H3 H' := (TK.ext e37).trans tk
      have tk0 : TK H H' := TK.ext ex
      have est : stF x.jobs pt k = pt.getD j.1 0 := by unfold stF; rw [jAt_at hj]
      have een : enF x.jobs pt k = pt.getD j.1 0 + j.2.1 := by unfold enF; rw [est, jAt_at hj]
      have end_ : ndF x.jobs k = j.2.2 := by unfold ndF; rw [jAt_at hj]
      have dr : ord.drop i = k :: ord.drop (i + 1) := by rw [List.drop_eq_getElem_cons (List.getElem?_eq_some_iff.mp hk).1, (List.getElem?_eq_some_iff.mp hk).2]
      rw [dr] at run
      unfold seatRun at run
      rw [est, een, end_] at run
      generalize hst : pt.getD j.1 0 = st at *
      have d0 := ok.nd j mj
      have lff1000 : ffl.length ≤ 1000 := by omega
      refine ⟨_, rfl, _, rfl, pj, us, (k : Int), _, rfl, rfl, sq_tup (tk3 _ _ hpj), atI_nat huk, pj', _, rfl, sq_tup (tk3 _ _ hpj'), rfl, _, _, rfl, _, _, rfl, _, _, rfl, rfl, ?_⟩
      refine ⟨_, rfl, _, rfl, pp, _, (j.1 : Int), _, rfl, rfl, sq_tup (tk0 _ _ hpp), hst ▸ atI_nat (ptAt (ok.pl j mj)), ?_⟩
      refine ⟨fun σ H2 => ∃ y10 y13 pl, σ = [some v, some (.ref pp), some (.int x.size), some (.ref pf), some (.ref pq), some (.int (k : Nat)), some (.int j.1), some (.int j.2.1), some (.int j.2.2), some (.int st), y10, some (.ref pl), some (.ref pj), y13] ∧ Same H' H2 ∧ H2 pl = some (.lst ((natI (freeI ffl st)).map V.int)), ?_, fun σ H2 hM => ?_⟩
      · refine ⟨_, rfl, pq, _, rfl, sq_lst hq', fun D nD => ?_⟩
        refine lc_it walk_enum (fun i H2 => H2 D = some (.lst ((natI ((List.range i).filter (freeP ffl st))).map V.int)) ∧ Same H' H2) ⟨upd_same, same_upd nD⟩ (fun i H2 _ h => sq_lst (h.2 _ _ hq')) ?_ ?_
        · rintro i2 x1 H4 H5 hi2 ⟨hD, sm⟩ ⟨T', k1, w1, rfl, nT, rfl, hk1, hw⟩
          cases hk1
          have hw : (ffl.map ffV)[i2]? = some w1 := hw
          rw [List.getElem?_map] at hw
          obtain ⟨o, ho, rfl⟩ := Option.map_eq_some_iff.mp hw
          have sT := same_at (o := .tup [.int (i2 : Nat), ffV o]) sm (sm.free nT)
          have hDT : upd H4 T' (.tup [.int (i2 : Nat), ffV o]) D = some _ := same_upd nT _ _ hD
          have ep : freeP ffl st i2 = !busyB st o := by unfold freeP; rw [List.getD_eq_getElem?_getD, ho]; rfl
          have li2 : i2 < ffl.length := (List.getElem?_eq_some_iff.mp ho).1
          have yes : freeP ffl st i2 = true → ∃ acc, upd H4 T' (.tup [.int (i2 : Nat), ffV o]) D = some (.lst acc) ∧ acc.length < sizeLine ∧ upd (upd H4 T' (.tup [.int (i2 : Nat), ffV o])) D (.lst (acc ++ [V.int (i2 : Nat)])) D = some (.lst ((natI ((List.range (i2 + 1)).filter (freeP ffl st))).map V.int)) ∧ Same H' (upd (upd H4 T' (.tup [.int (i2 : Nat), ffV o])) D (.lst (acc ++ [V.int (i2 : Nat)]))) := fun e => by
            have ln : ((List.range i2).filter (freeP ffl st)).length ≤ i2 := Nat.le_trans (List.length_filter_le ..) (by rw [List.length_range]; exact Nat.le_refl _)
            refine ⟨_, hDT, by unfold natI; rw [List.length_map, List.length_map]; exact small1000 (by omega), ?_, same_at sT nD⟩
            rw [upd_same, filter_range_succ, if_pos e, natI_app, List.map_append]; rfl
          have no : freeP ffl st i2 = false → upd H4 T' (.tup [.int (i2 : Nat), ffV o]) D = some (.lst ((natI ((List.range (i2 + 1)).filter (freeP ffl st))).map V.int)) ∧ Same H' (upd H4 T' (.tup [.int (i2 : Nat), ffV o])) := fun e => by
            refine ⟨?_, sT⟩
            rw [filter_range_succ, if_neg (by rw [e]; exact Bool.false_ne_true), List.append_nil]; exact hDT
          refine ⟨T', _, rfl, sq_tup upd_same, rfl, _, _, rfl, _, _, rfl, rfl, rfl, ?_⟩
          cases o with
          | none => exact ⟨_, rfl, rfl, _, rfl, iteT (iteT ⟨_, rfl, yes (by rw [ep]; rfl)⟩)⟩
          | some m =>
            refine ⟨_, rfl, rfl, _, rfl, iteF ⟨_, rfl, _, rfl, _, _, rfl, rfl, _, rfl, ite2 (fun h2 => ?_) (fun h2 => ?_)⟩⟩
            · have h2 : m ≤ st := of_decide_eq_true h2
              exact ⟨_, rfl, yes (by rw [ep]; show (!decide (st < m)) = true; rw [decide_eq_false (by omega)]; rfl)⟩
            · have h2 : ¬ m ≤ st := fun z => h2 (decide_eq_true z)
              exact no (by rw [ep]; show (!decide (st < m)) = false; rw [decide_eq_true (by omega)]; rfl)
        · rintro H4 ⟨hD, sm⟩
          rw [List.length_map] at hD
          exact ⟨_, _, _, rfl, sm, hD⟩
      · obtain ⟨y10, y13, pl, rfl, sm, hpl⟩ := hM
        have ex2 := ex.trans (ext_of sm)
        have tb2 : LamX.Tabs T0 H2 := fun p hp => (tb p hp).ext sm
        have fl : (freeI ffl st).length ≤ 1000 := by have := free_len ffl st; omega
        have eln : ((natI (freeI ffl st)).map V.int).length = (freeI ffl st).length := by unfold natI; rw [List.length_map, List.length_map]
        refine ⟨_, rfl, pl, _, rfl, .inl (sq_lst hpl), _, rfl, _, _, rfl, rfl, _, rfl, ite2 (fun h1 => ?_) (fun h1 => ?_)⟩
        · have h1 : (((natI (freeI ffl st)).map V.int).length : Int) < j.2.2 := of_decide_eq_true h1
          rw [eln] at h1
          rw [if_pos h1] at run
          exact q.1 run H2 ex2 tb2
        · have h1 : ¬ ((freeI ffl st).length : Int) < j.2.2 := fun z => h1 (by rw [← eln] at z; exact decide_eq_true z)
          rw [if_neg h1] at run
          have nb := ok.nb j mj
          refine ⟨_, rfl, _, rfl, _, rfl, pl, _, rfl, sq_lst hpl, fun p2 np2 => ?_⟩
          rw [cut_to (d := j.2.2) (by omega), ← List.map_take, show (natI (freeI ffl st)).take j.2.2.toNat = natI ((freeI ffl st).take j.2.2.toNat) from List.map_take.symm]
          generalize hS : (freeI ffl st).take j.2.2.toNat = S at *
          have k3 := same_upd (o := .lst ((natI S).map V.int)) np2
          have h3 : upd H2 p2 (.lst ((natI S).map V.int)) p2 = some (.lst ((natI S).map V.int)) := upd_same
          generalize upd H2 p2 (.lst ((natI S).map V.int)) = H8 at *
          refine ⟨p2, _, rfl, .inl ⟨sq_lst h3, fun t nt => ?_⟩⟩
          have k4 := same_upd (o := .tup ((natI S).map V.int)) nt
          have ht : upd H8 t (.tup ((natI S).map V.int)) t = some (tI (natI S)) := upd_same
          have s9 := (sm.trans k3).trans k4
          generalize upd H8 t (.tup ((natI S).map V.int)) = H9 at *
          have hf9 := s9 _ _ hf'
          have hq9 := s9 _ _ hq'
          have lus2 := fv.len
          refine ⟨_, rfl, _, rfl, pf, us', k, k, rfl, rfl, hf9, ixN_nat (by omega), ?_⟩
          have ex9 := ex.trans (ext_of s9)
          have tb9 : LamX.Tabs T0 H9 := fun p hp => (tb p hp).ext s9
          have tkA : TK H9 (upd H9 pf (.lst (us'.set k (.ref t)))) := TK.put hf9
          have exA : LamX.ExtN H (upd H9 pf (.lst (us'.set k (.ref t)))) := extP ex9 nf
          have tbA : LamX.Tabs T0 (upd H9 pf (.lst (us'.set k (.ref t)))) := tabs_put tb9 hf9
          have hfA : upd H9 pf (.lst (us'.set k (.ref t))) pf = some (.lst (us'.set k (.ref t))) := upd_same
          have hqA : upd H9 pf (.lst (us'.set k (.ref t))) pq = some (.lst (ffl.map ffV)) := by rw [upd_ne nfq.symm]; exact hq9
          have hsA : upd H9 pf (.lst (us'.set k (.ref t))) ps = some (.lst ((natI ord).map V.int)) := by rw [upd_ne ne1]; exact s9 _ _ hs'
          have tkA7 := (tk.trans (TK.of s9)).trans tkA
          have fvA : All2 (SeatV (upd H9 pf (.lst (us'.set k (.ref t))))) (us'.set k (.ref t)) (fdl.set k (some S)) := (fv.mono fun _ _ g => (g.tk (TK.of s9)).tk tkA).set ⟨t, rfl, tkA _ _ ht⟩ k
          have htA := tkA _ _ ht
          have Sm : ∀ s ∈ S, s < ffl.length := fun s hs => by rw [← hS] at hs; exact (free_mem (List.mem_of_mem_take hs)).1
          generalize upd H9 pf (.lst (us'.set k (.ref t))) = HA at *
          have lset : k < (us'.set k (V.ref t)).length := by rw [List.length_set]; omega
          have atk : (us'.set k (V.ref t))[k]? = some (.ref t) := by rw [List.getElem?_set_self (by omega)]
          refine ⟨_, rfl, _, rfl, pf, _, (k : Int), .ref t, rfl, rfl, sq_lst hfA, atI_nat atk, t, rfl, ⟨_, sq_tup htA⟩, for_tup (K := K) (a := t) (xs := (natI S).map V.int) (fun i2 σ H' => ∃ y10, σ = [some v, some (.ref pp), some (.int x.size), some (.ref pf), some (.ref pq), some (.int (k : Nat)), some (.int j.1), some (.int j.2.1), some (.int j.2.2), some (.int st), y10, some (.ref pl), some (.ref pj), y13] ∧
              LamX.ExtN H H' ∧ LamX.Tabs T0 H' ∧ TK HA H' ∧ H' ps = some (.lst ((natI ord).map V.int)) ∧ H' pf = some (.lst (us'.set k (.ref t))) ∧ H' pq = some (.lst ((setAll ffl (S.take i2) (st + j.2.1)).map ffV)))
            ⟨y10, rfl, exA, tbA, TK.refl _, hsA, hfA, hqA⟩ (fun i2 σ H' _ h => by obtain ⟨_, _, _, _, tk', _⟩ := h; exact sq_tup (tk' _ _ htA)) ?_ ?_⟩
          · rintro i2 x2 σ H' hx2 ⟨y10, rfl, exB, tbB, tkB, hsB, hfB, hqB⟩
            obtain ⟨sI, hsI, rfl⟩ := at_map hx2
            unfold natI at hsI
            rw [List.getElem?_map] at hsI
            obtain ⟨s2, hs2, rfl⟩ := Option.map_eq_some_iff.mp hsI
            have sl := Sm s2 (List.mem_of_getElem? hs2)
            refine ⟨_, rfl, _, rfl, _, _, rfl, rfl, _, rfl, _, rfl, pq, _, (s2 : Int), s2, rfl, rfl, hqB, ixN_nat (by rw [List.length_map, setAll_len]; exact sl), ?_⟩
            refine ⟨_, rfl, extP exB nq, tabs_put tbB hqB, tkB.trans (TK.put hqB), by rw [upd_ne ne2]; exact hsB, by rw [upd_ne nfq]; exact hfB, ?_⟩
            rw [upd_same, take_one hs2]
            unfold setAll
            rw [List.foldl_append]
            show _ = some (HO.lst (List.map ffV (List.set _ s2 (some (st + j.2.1)))))
            rw [List.map_set]; rfl
          · rintro σ H' ⟨y10, rfl, exB, tbB, tkB, hsB, hfB, hqB⟩
            have lS : S.length = ((natI S).map V.int).length := by unfold natI; rw [List.length_map, List.length_map]
            rw [← lS, List.take_length] at hqB
            exact ⟨_, _, _, _, _, _, _, _, fdl.set k (some S), setAll ffl S (st + j.2.1), _, rfl, exB, tbB, tkA7.trans tkB, hsB, hfB, fvA.mono fun _ _ g => g.tk tkB, hqB, by rw [List.length_set]; exact lfd, by rw [setAll_len]; exact lff, run⟩
    · rintro σ H' ⟨y5, y6, y7, y8, y9, y10, y11, y13, fdl, ffl, us', rfl, ex, tb, tk, hs', hf', fv, hq', lfd, lff, run⟩
      have run : seatsF x pt ord = some fdl := by
        rw [run, List.drop_of_length_le (by unfold natI; rw [List.length_map, List.length_map]; exact Nat.le_refl _)]; rfl
      refine ⟨_, rfl, pf, us', rfl, .inl ⟨sq_lst hf', fun t nt => ?_⟩⟩
      have k8 := same_upd (o := .tup us') nt
      exact q.2 fdl run t us' _ (ex.trans (ext_of k8)) (fun p hp => (tb p hp).ext k8) upd_same (fv.mono fun _ _ g => g.tk (TK.of k8))
end
end M12

namespace M12
open PySem PySem.Spec PyProof.Rows L2 SX Own Gd
open C8 (Cal pe_c pe_gc pe_mk Mak pss_cut)
def tL (a : List Int) : HO := .lst (a.map V.int)
theorem dp_intsD {K : PySem.W.Frag} {H : Hp} {p : Addr} {cs : List Int} (h : H p = some (.lst (cs.map V.int))) : Dp K H (.ref p) (.list (cs.map PyData.int)) := .lst (sq_lst h) (dp_ints cs)
theorem ne_nil_eqv (cs : List Int) : (!PyData.eqv (.list (cs.map PyData.int)) (.list [])) = !cs.isEmpty := by
  cases cs with
  | nil => rfl
  | cons c r => rw [List.map_cons, PyData.eqv]; rfl
theorem seqIx {n k : Nat} (h : k < n) : seqIndex? (k : Int) n = some k := by
  unfold seqIndex?
  simp
  omega
theorem eraseIdx_mapI : ∀ (l : List Int) (j : Nat), (l.map V.int).eraseIdx j = (l.eraseIdx j).map V.int
  | [], _ => rfl
  | c :: l, 0 => rfl
  | c :: l, j + 1 => by
    show V.int c :: (l.map V.int).eraseIdx j = V.int c :: (l.eraseIdx j).map V.int
    rw [eraseIdx_mapI l j]
theorem er_perm : ∀ (l : List Int) (j : Nat) (h : j < l.length), (l[j] :: l.eraseIdx j).Perm l
  | c :: l, 0, _ => List.Perm.refl _
  | c :: l, j + 1, h => by
    have h' : j < l.length := by simpa using h
    have ih := er_perm l j h'
    show (l[j] :: c :: l.eraseIdx j).Perm (c :: l)
    exact (List.Perm.swap c l[j] _).trans (ih.cons c)
theorem cut_all {l : List V} : cutV l none none = l := by
  unfold cutV
  rw [HT.sIx_none, HT.sIx_none, List.drop_zero, Nat.sub_zero, List.take_length]
section
variable {P : Program} {w : World} {K : PySem.W.Frag} {mg : Str → Option Value} {base : Heap} {aT : Addr} {es : Array DictEntry} {nn : Nat}
abbrev s_Ldraw : Stmt := topS 29
abbrev n_Ldraw : List Str := ["heap", "many", "rest"]
theorem sc_Ldraw : FnScope n_Ldraw ["heap", "many"] (defScope s_Ldraw) := ⟨rfl, rfl, rfl, by decide +kernel, rfl, by decide +kernel, by decide +kernel⟩
def spDraw : Sp := fun vs H Q _ => ∃ (h q : Addr) (n : Int), vs = [.ref h, .int n] ∧ HpAt H h q ∧ 0 < n ∧ n < 1073741824 ∧ ∀ d H', 0 ≤ d → d < n → HpAt H' h q → Kpt h q H H' → Q (.int d) H'
theorem ok_draw {f : Addr} {fd : FuncData} (F : Fun K "_law_draw" "_law_draw" s_Ldraw f fd) (T : Txt K mg w aT es nn) : FnOk P w K mg base CX0 1 f fd ["heap", "many"] spDraw := by
  refine F.ok sc_Ldraw (fun vs H Q E h => ?_) (fun cdv A outer s H vs Q E hr h => ?_)
  · obtain ⟨h, q, n, rfl, _⟩ := h
    rfl
  · obtain ⟨h, q, n, rfl, ⟨cs0, st0, a0⟩, hn, hn2, k⟩ := h
    refine ⟨_, (pss_cut (ps_while PassesOwn.never (PW.pt (pw_and (pt_cmpR (op_neD hr.units) (pe_ix ix_list (pv 0) pe_int (fun _ _ => rfl)) (pe_lst pa_nil) (nomark _)) (pw_and1 (pt_cmpR op_eq (pe_ix ix_list (pe_ix ix_list (pv 0) pe_int (fun _ _ => rfl)) (pe_un un_neg pe_int) (fun _ _ => rfl)) pe_int (nomark _))))) (pss_one (ps_expr (pe_bm0 PySem.F.plainAttrs_list PySem.F.slot_list_pop PySem.F.type_list_pop mt_pop (pe_ix ix_list (pv 0) pe_int (fun _ _ => rfl))))))
      (pss_cons (ps_if (pt_cmpR (op_neD hr.units) (pe_ix ix_list (pv 0) pe_int (fun _ _ => rfl)) (pe_lst pa_nil) (nomark _)) (pss_cons (ps_set (i := 2) sc_Ldraw.nd rfl (.inl rfl) (pe_bm0 PySem.F.plainAttrs_list PySem.F.slot_list_pop PySem.F.type_list_pop mt_pop (pe_ix ix_list (pv 0) pe_int (fun _ _ => rfl))))
        (pss_cons (ps_expr (pe_bm PySem.F.plainAttrs_list PySem.F.slot_list_append PySem.F.type_list_append mt_append (pe_ix ix_list (pv 0) pe_int (fun _ _ => rfl)) (pa_cons (pe_op op_fdiv (pv 2) (pv 1)) pa_nil)))
        (pss_one (ps_ret (pe_op op_mod (pe_callTy call_int1 (by rfl) T.b_int (by decide +kernel) (pa_cons (pv 2) pa_nil)) (pv 1)))))) pss_nil)
      (pss_cons (ps_asg (pe_op op_mod (pe_callTy call_int1 (by rfl) T.b_int (by decide +kernel) (pa_cons (pe_op op_add (pe_op op_mul (pe_ix ix_list (pv 0) pe_int (fun _ _ => rfl)) pe_int) pe_int) pa_nil)) pe_int) (pg_sub (pv 0) pe_int set_list))
      (pss_one (ps_ret (pe_op op_mod (pe_callTy call_int1 (by rfl) T.b_int (by decide +kernel) (pa_cons (pe_op op_fdiv (pe_ix ix_list (pv 0) pe_int (fun _ _ => rfl)) pe_int) pa_nil)) (pv 1))))))), ?_⟩
    refine ⟨fun σ H' => ∃ cs st y, σ = [some (.ref h), some (.int n), y] ∧ HpL H' h q cs st ∧ Kpt h q H H', ?_, fun σ H1 hM => ?_⟩
    · refine ⟨fun m σ H' => ∃ cs st y, σ = [some (.ref h), some (.int n), y] ∧ HpL H' h q cs st ∧ Kpt h q H H' ∧ m = cs.length, ⟨_, cs0, st0, none, rfl, a0, Kpt.refl _ _ _, rfl⟩, fun m σ H1 hW => ?_⟩
      obtain ⟨cs, st, y, rfl, a, kp, rfl⟩ := hW
      refine ⟨_, rfl, h, _, 0, .ref q, rfl, rfl, sq_lst a.hh, rfl, Nat.zero_le _, fun p np => ?_⟩
      have sm : Same H1 (upd H1 p (.lst [])) := same_upd np
      have a2 := a.same sm
      refine ⟨_, _, .lst (sq_lst a2.hq) (dp_ints cs), .lst (sq_lst upd_same) .nil, shp_ints cs, shp_ints [], _, rfl, ?_⟩
      rcases List.eq_nil_or_concat cs with rfl | ⟨ds, c, rfl⟩
      · refine iteF ?_
        exact ⟨[], st, y, rfl, a2, kp.trans (.of_same sm)⟩
      · have e : PyData.eqv (.list ((ds.concat c).map PyData.int)) (.list []) = false := by
          rw [List.concat_eq_append, List.map_append, PyData.eqv]
          cases ds with
          | nil => rfl
          | cons d r => rfl
        rw [e]
        refine iteT ?_
        have el : (ds.concat c).map V.int = ds.map V.int ++ [.int c] := by rw [List.concat_eq_append, List.map_append]; rfl
        refine ⟨_, rfl, h, _, 0, .ref q, rfl, rfl, sq_lst a2.hh, rfl, _, rfl, q, _, -1, .int c, rfl, rfl, sq_lst a2.hq, (by rw [el]; exact atI_last _ _), rfl, _, rfl, ite2 (fun hz => ?_) (fun hz => ?_)⟩
        · refine ⟨fun σ' H' => ∃ m', m' < (ds.concat c).length ∧ _, fun _ _ z => z, ?_⟩
          refine ⟨_, rfl, h, _, 0, .ref q, rfl, rfl, sq_lst a2.hh, rfl, .inl ⟨rfl, _, sq_lst a2.hq⟩, q, _, .int c, rfl, rfl, a2.hq, ?_, ds.length, ?_, ds, st, y, rfl, ?_, ?_, rfl⟩
          · rw [el, List.length_append, List.length_singleton, Nat.add_sub_cancel, List.getElem?_append_right (Nat.le_refl _), Nat.sub_self]; rfl
          · rw [List.length_concat]; omega
          · rw [el, List.dropLast_concat]
            refine a2.put ds (fun x hx => a.nn x (by rw [List.concat_eq_append]; exact List.mem_append_left _ hx)) ?_
            have := a.ln; rw [List.length_concat] at this; omega
          · exact (kp.trans (.of_same sm)).trans .at_q
        · exact ⟨ds.concat c, st, y, rfl, a2, kp.trans (.of_same sm)⟩
    · obtain ⟨cs, st, y, rfl, a, kp⟩ := hM
      refine ⟨_, rfl, h, _, 0, .ref q, rfl, rfl, sq_lst a.hh, rfl, Nat.zero_le _, fun p np => ?_⟩
      have sm : Same H1 (upd H1 p (.lst [])) := same_upd np
      have a2 := a.same sm
      refine ⟨_, _, .lst (sq_lst a2.hq) (dp_ints cs), .lst (sq_lst upd_same) .nil, shp_ints cs, shp_ints [], _, rfl, ?_⟩
      have kp2 := kp.trans (.of_same (h := h) (q := q) sm)
      rcases List.eq_nil_or_concat cs with rfl | ⟨ds, c, rfl⟩
      · refine iteF ?_
        have b1 : (0 : Int) ≤ (st * 48271 + 11) % 2147483647 := Int.emod_nonneg _ (by decide)
        have b2 : (st * 48271 + 11) % 2147483647 < 2147483647 := Int.emod_lt_of_pos _ (by decide)
        refine ⟨_, rfl, h, _, 1, .int st, rfl, rfl, sq_lst a2.hh, rfl, _, _, rfl, rfl, .inr ⟨by decide, by decide⟩, _, _, rfl, rfl, .inl ⟨_, rfl, _, _, rfl, rfl, (by show (0 : Int) < 2147483647; decide), _, rfl, h, _, 1, 1, rfl, rfl, a2.hh, rfl, ?_⟩⟩
        have a3 : HpL (upd (upd H1 p (.lst [])) h (.lst [.ref q, .int ((st * 48271 + 11) % 2147483647)])) h q [] ((st * 48271 + 11) % 2147483647) :=
          ⟨a.ne, upd_same, by rw [upd_ne a.ne.symm]; exact a2.hq, a.nn, a.ln, b1, b2⟩
        refine ⟨_, rfl, h, _, 1, _, rfl, rfl, sq_lst a3.hh, rfl, _, _, rfl, rfl, ⟨by decide, by decide⟩, .inl ⟨_, rfl, _, rfl, _, _, rfl, rfl, hn, ?_⟩⟩
        exact k _ _ (Int.emod_nonneg _ (by omega)) (Int.emod_lt_of_pos _ hn) ⟨_, _, a3⟩ (kp2.trans .at_h)
      · have e : PyData.eqv (.list ((ds.concat c).map PyData.int)) (.list []) = false := by
          rw [List.concat_eq_append, List.map_append, PyData.eqv]
          cases ds with
          | nil => rfl
          | cons d r => rfl
        rw [e]
        refine iteT ?_
        have el : (ds.concat c).map V.int = ds.map V.int ++ [.int c] := by rw [List.concat_eq_append, List.map_append]; rfl
        have c0 : 0 ≤ c := a.nn c (by rw [List.concat_eq_append]; simp)
        have dl : ds.length + 1 ≤ 60 := by have := a.ln; rwa [List.length_concat] at this
        refine ⟨_, rfl, h, _, 0, .ref q, rfl, rfl, sq_lst a2.hh, rfl, .inl ⟨rfl, _, sq_lst a2.hq⟩, q, _, .int c, rfl, rfl, a2.hq, ?_, ?_⟩
        · rw [el, List.length_append, List.length_singleton, Nat.add_sub_cancel, List.getElem?_append_right (Nat.le_refl _), Nat.sub_self]; rfl
        · rw [el, List.dropLast_concat]
          have a3 := a2.put ds (fun x hx => a.nn x (by rw [List.concat_eq_append]; exact List.mem_append_left _ hx)) (by omega)
          refine ⟨_, rfl, h, _, 0, .ref q, rfl, rfl, sq_lst a3.hh, rfl, .inl ⟨rfl, _, sq_lst a3.hq⟩, _, rfl, _, rfl, _, _, rfl, rfl, ⟨hn, hn2⟩, q, _, _, rfl, rfl, a3.hq, ?_, ?_⟩
          · rw [List.length_map]; exact small1000 (by omega)
          · have a4 := a3.put (ds ++ [c / n]) (fun x hx => by
              rcases List.mem_append.mp hx with z | z
              · exact a3.nn x z
              · rw [List.mem_singleton.mp z]; exact Int.ediv_nonneg c0 (by omega)) (by rw [List.length_append]; exact dl)
            rw [List.map_append] at a4
            refine ⟨_, rfl, .inl ⟨_, rfl, _, rfl, _, _, rfl, rfl, hn, ?_⟩⟩
            exact k _ _ (Int.emod_nonneg _ (by omega)) (Int.emod_lt_of_pos _ hn) ⟨_, _, a4⟩ ((kp2.trans .at_q).trans .at_q)
abbrev s_Lheap : Stmt := topS 28
abbrev n_Lheap : List Str := ["script", "cell", "cells", "stir"]
theorem sc_Lheap : FnScope n_Lheap ["script"] (defScope s_Lheap) := ⟨rfl, rfl, rfl, by decide +kernel, rfl, by decide +kernel, by decide +kernel⟩
def spHeap (K : PySem.W.Frag) : Sp := fun vs H Q _ => ∃ (a : Addr) (ns : List Int), vs = [.ref a] ∧ SqL K H a (ns.map V.int) ∧ ns.length ≤ 63 ∧ ∀ H' h q, Same H H' → H h = none → H q = none → HpAt H' h q → Q (.ref h) H'
theorem ok_heap {f : Addr} {fd : FuncData} (F : Fun K "_law_heap" "_law_heap" s_Lheap f fd) (T : Txt K mg w aT es nn) : FnOk P w K mg base CX0 1 f fd ["script"] (spHeap K) := by
  refine F.ok sc_Lheap (fun vs H Q E h => ?_) (fun cdv A outer s H vs Q E hr h => ?_)
  · obtain ⟨a, ns, rfl, _⟩ := h
    rfl
  · obtain ⟨a, ns, rfl, hS, hlen, k⟩ := h
    refine ⟨_, (pss_cons (ps_par (i := 2) (j := 3) (by rfl) sc_Lheap.nd rfl rfl (by decide) rfl rfl (pa_cons (pe_lc (own := [("cell", 1)]) rfl sc_Lheap.nd (pi_list (pe_slice sl_list (pv 0) po_none (po_some pe_int))) (blkOk_by (N := n_Lheap) (sc := defScope s_Lheap) (by decide +kernel)) (fun _ _ _ _ _ => (pg_name (i := 1) sc_Lheap.nd rfl (.inl rfl))) (fun _ _ _ _ _ => pts_nil) (fun _ _ _ _ _ => (pe_callB call_abs (by rfl) T.b_abs (by decide +kernel) (pa_cons (pv 1) pa_nil)))) (pa_cons pe_int pa_nil)) (by rfl))
      (pss_cons (ps_for PassesOwn.never rfl (pi_list (pv 2)) (pg_name (i := 1) sc_Lheap.nd rfl (.inl rfl)) (pss_one (ps_set (i := 3) sc_Lheap.nd rfl (.inl rfl) (pe_op op_mod (pe_callTy call_int1 (by rfl) T.b_int (by decide +kernel) (pa_cons (pe_op op_add (pe_op op_add (pe_op op_mul (pv 3) pe_int) (pe_op op_mod (pe_callTy call_int1 (by rfl) T.b_int (by decide +kernel) (pa_cons (pv 1) pa_nil)) pe_int)) pe_int) pa_nil)) pe_int))))
      (pss_one (ps_ret (pe_lst (pa_cons (pe_revL (pe_lc (own := [("cell", 1)]) rfl sc_Lheap.nd (pi_list (pv 2)) (blkOk_by (N := n_Lheap) (sc := defScope s_Lheap) (by decide +kernel)) (fun _ _ _ _ _ => (pg_name (i := 1) sc_Lheap.nd rfl (.inl rfl))) (fun _ _ _ _ _ => (pts_one (pt_cmpR op_ge (pv 1) (pe_op op_pow pe_int pe_int) (nomark _)))) (fun _ _ _ _ _ => (pv 1)))) (pa_cons (pv 3) pa_nil))))))), ?_⟩
    refine ⟨_, rfl, _, rfl, a, _, rfl, hS, fun p np => ?_⟩
    rw [cut60]
    have s1 : Same H (upd H p (.lst ((ns.take 60).map V.int))) := same_upd np
    refine ⟨p, rfl, ⟨_, sq_lst upd_same⟩, fun D nD => ?_⟩
    have nDH : H D = none := s1.free nD
    have hDp : p ≠ D := ne_of_none upd_same nD
    refine lc_list (K := K) (a := p) (xs := (ns.take 60).map V.int) (fun i H' => ∃ cs : List Int, H' D = some (.lst (cs.map V.int)) ∧ (∀ c ∈ cs, 0 ≤ c) ∧ cs.length = i ∧ H' p = some (.lst ((ns.take 60).map V.int)) ∧ Same H H')
      ⟨[], upd_same, by simp, rfl, by rw [upd_ne hDp]; exact upd_same, same_at s1 nDH⟩ (fun i H' _ ⟨_, _, _, _, e, _⟩ => sq_lst e) ?_ ?_
    · rintro i x H' hi ⟨cs, hD, c0, cl, hp, sm⟩
      obtain ⟨z, hz, rfl⟩ := get_int hi
      have hil : i < (ns.take 60).length := (List.getElem?_eq_some_iff.mp hz).1
      rw [List.length_take] at hil
      refine ⟨rfl, _, rfl, z, rfl, cs.map V.int, hD, (by rw [List.length_map]; exact small1000 (by omega)), cs ++ [if z < 0 then -z else z], ?_, ?_, ?_, ?_, same_at sm nDH⟩
      · rw [upd_same, List.map_append]; rfl
      · intro c hc
        rcases List.mem_append.mp hc with h | h
        · exact c0 c h
        · rw [List.mem_singleton.mp h]; split <;> omega
      · rw [List.length_append, cl]; rfl
      · rw [upd_ne hDp]; exact hp
    · rintro H2 ⟨cs, hD, c0, cl, hp, sm⟩
      have cl60 : cs.length ≤ 60 := by rw [cl, List.length_map, List.length_take]; omega
      refine ⟨_, _, rfl, ?_⟩
      -- the loop over the cells
      refine ⟨_, rfl, D, rfl, ⟨_, sq_lst hD⟩, for_list (K := K) (a := D) (xs := cs.map V.int) (fun i σ H' => ∃ (y : Option V) (st : Int), σ = [some (.ref a), y, some (.ref D), some (.int st)] ∧ 0 ≤ st ∧ st < 2147483647 ∧ H' = H2)
        ⟨_, 61403, rfl, by decide, by decide, rfl⟩ (fun i σ H' _ ⟨_, _, _, _, _, e⟩ => by rw [e]; exact sq_lst hD) ?_ ?_⟩
      · rintro i x σ H' hi ⟨y, st, rfl, h0, h1, rfl⟩
        obtain ⟨z, hz, rfl⟩ := get_int hi
        refine ⟨_, rfl, _, _, rfl, rfl, .inl ⟨by omega, by omega⟩, _, rfl, .inl ⟨_, rfl, _, _, rfl, rfl, (by show (0 : Int) < 2147483563; decide), _, _, rfl, rfl, _, _, rfl, rfl, .inl ⟨_, rfl, _, _, rfl, rfl, (by show (0 : Int) < 2147483647; decide), ?_⟩⟩⟩
        exact ⟨_, _, rfl, Int.emod_nonneg _ (by decide), Int.emod_lt_of_pos _ (by decide), rfl⟩
      · rintro σ H' ⟨y, st, rfl, h0, h1, rfl⟩
        refine ⟨_, rfl, D, rfl, ⟨_, sq_lst hD⟩, fun D2 nD2 => ?_⟩
        have nD2H : H D2 = none := sm.free nD2
        have hDD : D ≠ D2 := ne_of_none hD nD2
        refine lc_list (K := K) (a := D) (xs := cs.map V.int) (fun i H3 => ∃ ds : List Int, H3 D2 = some (.lst (ds.map V.int)) ∧ (∀ c ∈ ds, 0 ≤ c) ∧ ds.length ≤ i ∧ H3 D = some (.lst (cs.map V.int)) ∧ Same H H3)
          ⟨[], upd_same, by simp, Nat.le_refl _, by rw [upd_ne hDD]; exact hD, same_at sm nD2H⟩ (fun i H' _ ⟨_, _, _, _, e, _⟩ => sq_lst e) ?_ ?_
        · rintro i x H3 hi ⟨ds, hd, d0, dl, hc, sm3⟩
          obtain ⟨z, hz, rfl⟩ := get_int hi
          have hil : i < cs.length := (List.getElem?_eq_some_iff.mp hz).1
          have hz0 : 0 ≤ z := c0 z (List.mem_of_getElem? hz)
          refine ⟨rfl, _, rfl, _, _, rfl, rfl, ⟨by decide, by decide, by decide⟩, _, _, rfl, rfl, _, rfl, ite2 (fun _ => ?_) (fun _ => ?_)⟩
          · refine ⟨_, rfl, ds.map V.int, hd, (by rw [List.length_map]; exact small1000 (by omega)), ds ++ [z], ?_, ?_, ?_, ?_, same_at sm3 nD2H⟩
            · rw [upd_same, List.map_append]; rfl
            · intro c hc
              rcases List.mem_append.mp hc with h | h
              · exact d0 c h
              · rw [List.mem_singleton.mp h]; exact hz0
            · rw [List.length_append]; exact Nat.succ_le_succ dl
            · rw [upd_ne hDD]; exact hc
          · exact ⟨ds, hd, d0, by omega, hc, sm3⟩
        · rintro H3 ⟨ds, hd, d0, dl, hc, sm3⟩
          have dl60 : ds.length ≤ 60 := by rw [List.length_map] at dl; omega
          refine ⟨D2, _, rfl, sq_lst hd, fun q nq => ?_⟩
          refine ⟨_, rfl, (by show 2 ≤ sizeLine; decide), fun g ng => ?_⟩
          have s4 := same_at (o := .lst (ds.map V.int).reverse) sm3 (sm3.free nq)
          have s5 := same_at (o := .lst [.ref q, .int st]) s4 (s4.free ng)
          have hgq : g ≠ q := (ne_of_none upd_same ng).symm
          refine k _ g q s5 (s4.free ng) (sm3.free nq) ⟨ds.reverse, st, hgq, upd_same, ?_, ?_, ?_, h0, h1⟩
          · rw [upd_ne hgq.symm, upd_same, List.map_reverse]
          · intro c hc; exact d0 c (List.mem_reverse.mp hc)
          · rw [List.length_reverse]; exact dl60
abbrev s_Lpick : Stmt := topS 30
abbrev n_Lpick : List Str := ["heap", "some"]
theorem sc_Lpick : FnScope n_Lpick ["heap", "some"] (defScope s_Lpick) := ⟨rfl, rfl, rfl, by decide +kernel, rfl, by decide +kernel, by decide +kernel⟩
def spPick : Sp := fun vs H Q _ => ∃ (h q p : Addr) (xs : List V), vs = [.ref h, .ref p] ∧ HpAt H h q ∧ ((H p = some (.lst xs) ∧ p ≠ h ∧ p ≠ q) ∨ H p = some (.tup xs)) ∧ xs ≠ [] ∧ xs.length ≤ 1000 ∧ ∀ v H', v ∈ xs → HpAt H' h q → Kpt h q H H' → Q v H'
theorem ok_pick {f : Addr} {fd : FuncData} (F : Fun K "_law_pick" "_law_pick" s_Lpick f fd) (T : Txt K mg w aT es nn) (c_Ldraw : Cal P w K mg base 1 "_law_draw" spDraw []) : FnOk P w K mg base CX0 2 f fd ["heap", "some"] spPick := by
  refine F.ok sc_Lpick (fun vs H Q E h => ?_) (fun cdv A outer s H vs Q E hr h => ?_)
  · obtain ⟨h, q, p, xs, rfl, _⟩ := h
    rfl
  · obtain ⟨h, q, p, xs, rfl, a, hp, hl, hn, k⟩ := h
    refine ⟨_, (pss_one (ps_ret (pe_ix ix_seq (pv 1) (pe_c c_Ldraw hr (by decide) (by rfl) (pa_cons (pv 0) (pa_cons (pe_callB call_len_seq (by rfl) T.b_len (by decide +kernel) (pa_cons (pv 1) pa_nil)) pa_nil))) (fun _ _ => rfl)))), ?_⟩
    have h1 : 0 < xs.length := List.length_pos_iff.mpr hl
    refine ⟨_, rfl, _, rfl, _, rfl, p, xs, rfl, hp.elim (fun z => .inl (sq_lst z.1)) (fun z => .inr (sq_tup z)), h, q, (xs.length : Int), rfl, a, by omega, by omega, fun d H' d0 d1 a' kp => ?_⟩
    obtain ⟨j, rfl⟩ : ∃ j : Nat, d = (j : Int) := ⟨d.toNat, by omega⟩
    have hj : j < xs.length := by omega
    rcases hp with ⟨hp, p1, p2⟩ | hp
    · exact .inl ⟨p, xs, (j : Int), xs[j], rfl, rfl, sq_lst (kp _ _ hp p1 p2), atI_nat (List.getElem?_eq_getElem hj), k _ _ (List.getElem_mem hj) a' kp⟩
    · exact .inr (.inl ⟨p, xs, (j : Int), xs[j], rfl, rfl, sq_tup (TK.kp kp a _ _ hp), atI_nat (List.getElem?_eq_getElem hj), k _ _ (List.getElem_mem hj) a' kp⟩)
abbrev s_Lmixed : Stmt := topS 31
abbrev n_Lmixed : List Str := ["heap", "some", "left", "found"]
theorem sc_Lmixed : FnScope n_Lmixed ["heap", "some"] (defScope s_Lmixed) := ⟨rfl, rfl, rfl, by decide +kernel, rfl, by decide +kernel, by decide +kernel⟩
def spMixed : Sp := fun vs H Q _ => ∃ (h q p : Addr) (xs : List Int), vs = [.ref h, .ref p] ∧ HpAt H h q ∧ H p = some (tL xs) ∧ p ≠ h ∧ p ≠ q ∧ xs.length ≤ 1000 ∧ ∀ r ys H', ys.Perm xs → HpAt H' h q → Kpt h q H H' → H r = none → H' r = some (tL ys) → Q (.ref r) H'
theorem ok_mixed {f : Addr} {fd : FuncData} (F : Fun K "_law_mixed" "_law_mixed" s_Lmixed f fd) (T : Txt K mg w aT es nn) (c_Ldraw : Cal P w K mg base 1 "_law_draw" spDraw []) : FnOk P w K mg base CX0 2 f fd ["heap", "some"] spMixed := by
  refine F.ok sc_Lmixed (fun vs H Q E h => ?_) (fun cdv A outer s H vs Q E hr h => ?_)
  · obtain ⟨h, q, p, xs, rfl, _⟩ := h
    rfl
  · obtain ⟨h, q, p, xs, rfl, a, hp, p1, p2, hn, k⟩ := h
    refine ⟨_, (pss_cons (ps_par (i := 2) (j := 3) (by rfl) sc_Lmixed.nd rfl rfl (by decide) rfl rfl (pa_cons (pe_slice sl_list (pv 1) po_none po_none) (pa_cons (pe_lst pa_nil) pa_nil)) (by rfl))
      (pss_cut (ps_while PassesOwn.never (pt_cmpR (op_neD hr.units) (pv 2) (pe_lst pa_nil) (nomark _)) (pss_one (ps_expr (pe_bm PySem.F.plainAttrs_list PySem.F.slot_list_append PySem.F.type_list_append mt_append (pv 3) (pa_cons (pe_bm PySem.F.plainAttrs_list PySem.F.slot_list_pop PySem.F.type_list_pop mt_popAt (pv 2) (pa_cons (pe_c c_Ldraw hr (by decide) (by rfl) (pa_cons (pv 0) (pa_cons (pe_callB call_len_seq (by rfl) T.b_len (by decide +kernel) (pa_cons (pv 2) pa_nil)) pa_nil))) pa_nil)) pa_nil)))))
      (pss_one (ps_ret (pv 3))))), ?_⟩
    refine ⟨_, rfl, ?_⟩
    unfold tNoPart
    refine ⟨p, _, rfl, sq_lst hp, fun l nl => ?_⟩
    rw [cut_all]
    refine ⟨by show 0 ≤ _; exact Nat.zero_le _, fun g ng => ?_⟩
    refine ⟨_, _, rfl, ?_⟩
    have sA : Same H (upd H l (.lst (xs.map V.int))) := same_upd nl
    have hl : upd H l (.lst (xs.map V.int)) l = some (tL xs) := upd_same
    have k1 := sA.trans (same_upd (o := .lst []) ng)
    have lg : l ≠ g := ne_of_none hl ng
    have hl1 : upd (upd H l (.lst (xs.map V.int))) g (.lst []) l = some (tL xs) := by rw [upd_ne lg]; exact hl
    have hg1 : upd (upd H l (.lst (xs.map V.int))) g (.lst []) g = some (tL []) := upd_same
    have ng0 : H g = none := sA.free ng
    obtain ⟨l1, l2⟩ := a.fresh nl
    obtain ⟨g1, g2⟩ := a.fresh ng0
    have a1 := a.same k1
    generalize upd (upd H l (.lst (xs.map V.int))) g (.lst []) = H1 at *
    refine ⟨fun σ H' => ∃ ds, σ = [some (.ref h), some (.ref p), some (.ref l), some (.ref g)] ∧ ds.Perm xs ∧ HpAt H' h q ∧ Kpt h q H H' ∧ H' g = some (tL ds), ?_, fun σ H2 hM => ?_⟩
    · refine ⟨fun m σ H' => ∃ cs ds, σ = [some (.ref h), some (.ref p), some (.ref l), some (.ref g)] ∧ (cs ++ ds).Perm xs ∧ HpAt H' h q ∧ Kpt h q H H' ∧ H' l = some (tL cs) ∧ H' g = some (tL ds) ∧ m = cs.length, ⟨_, xs, [], rfl, by rw [List.append_nil], a1, .of_same k1, hl1, hg1, rfl⟩, fun m σ H2 hW => ?_⟩
      obtain ⟨cs, ds, rfl, pm, a2, kp, hl2, hg2, rfl⟩ := hW
      have ln := pm.length_eq
      rw [List.length_append] at ln
      refine ⟨_, rfl, Nat.zero_le _, fun u nu => ?_⟩
      have sm : Same H2 (upd H2 u (.lst [])) := same_upd nu
      have a3 := a2.same sm
      have hl3 := sm _ _ hl2; have hg3 := sm _ _ hg2
      have hu : upd H2 u (.lst []) u = some (.lst []) := upd_same
      have kp3 := kp.trans (.of_same (h := h) (q := q) sm)
      refine ⟨_, _, dp_intsD hl3, .lst (sq_lst hu) .nil, shp_ints cs, shp_ints [], _, rfl, ?_⟩
      generalize upd H2 u (.lst []) = H3 at *
      rw [ne_nil_eqv]
      cases cs with
      | nil => exact iteF ⟨ds, rfl, pm, a3, kp3, hg3⟩
      | cons c0 r0 =>
        refine iteT ?_
        generalize hcs : c0 :: r0 = cs at *
        have pos : 0 < cs.length := by rw [← hcs]; exact Nat.succ_pos _
        refine ⟨fun σ' H' => ∃ m', m' < cs.length ∧ _, fun _ _ z => z, ?_⟩
        refine ⟨_, rfl, .inl ⟨rfl, _, sq_lst hg3⟩, _, rfl, .inl ⟨rfl, _, sq_lst hl3⟩, _, rfl, _, rfl, l, _, rfl, .inl (sq_lst hl3), h, q, _, rfl, a3, by rw [List.length_map]; omega, by rw [List.length_map]; omega, fun d H4 d0 d1 a4 kp4 => ?_⟩
        rw [List.length_map] at d1
        obtain ⟨j, rfl⟩ := Int.eq_ofNat_of_zero_le d0
        have hj : j < cs.length := by omega
        have hl4 := kp4 _ _ hl3 l1 l2
        have hg4 := kp4 _ _ hg3 g1 g2
        refine ⟨l, _, (j : Int), j, .int cs[j], rfl, rfl, hl4, by omega, by omega, seqIx (by rw [List.length_map]; exact hj), by rw [List.getElem?_map, List.getElem?_eq_getElem hj]; rfl, ?_⟩
        have hg5 : upd H4 l (.lst ((cs.map V.int).eraseIdx j)) g = some (tL ds) := by rw [upd_ne lg.symm]; exact hg4
        refine ⟨g, _, _, rfl, rfl, hg5, by rw [List.length_map]; exact small1000 (by omega), cs.length - 1, by omega, cs.eraseIdx j, ds ++ [cs[j]], rfl, ?_, (a4.upd l1 l2).upd g1 g2, ?_, ?_, ?_, by rw [List.length_eraseIdx_of_lt hj]⟩
        · refine List.Perm.trans ?_ pm
          have := er_perm cs j hj
          refine (List.perm_append_comm).trans ?_
          rw [List.append_assoc]
          refine (List.perm_append_comm).trans ?_
          exact (List.Perm.append_right ds this)
        · refine ((kp3.trans kp4).at_new (nl)).at_new ng0
        · rw [upd_ne lg, upd_same]
          unfold tL
          rw [eraseIdx_mapI]
        · rw [upd_same]
          show some (HO.lst _) = some (HO.lst ((ds ++ [cs[j]]).map V.int))
          rw [List.map_append]; rfl
    · obtain ⟨ds, rfl, pm, a2, kp, hg2⟩ := hM
      exact ⟨_, rfl, k g ds H2 pm a2 kp ng0 hg2⟩
end
end M12

namespace M12
open PySem PySem.Spec PyProof.Rows L2 SX Own Gd
open C8 (Cal pe_c pe_gc pe_mk Mak pss_cut)
theorem iteT' {c A B : Prop} [Decidable c] (h : c) (x : A) : if c then A else B := by rw [if_pos h]; exact x
theorem iteF' {c A B : Prop} [Decidable c] (h : ¬ c) (x : B) : if c then A else B := by rw [if_neg h]; exact x
theorem inV_int (m : Int) : ∀ fs : List Int, inV (.int m) (fs.map V.int) = decide (m ∈ fs)
  | [] => by simp [inV]
  | c :: fs => by
    have ih := inV_int m fs
    unfold inV at ih ⊢
    rw [List.map_cons, List.any_cons, ih]
    have : eqV (.int c) (.int m) = decide (c = m) := by
      simp [eqV]
      try (by_cases e : c = m <;> simp [e])
    rw [this]
    by_cases e : c = m
    · subst e; simp
    · by_cases g : m ∈ fs
      · simp [e, g]
      · simp [e, g, Ne.symm e]
theorem allflat (fs : List Int) : (fs.map V.int).all flatV = true := by
  rw [List.all_eq_true]
  intro v hv
  obtain ⟨c, _, rfl⟩ := List.mem_map.mp hv
  rfl
theorem ld_app (m : Int) (x : Sn) : ∀ l : List Sn, ld (l ++ [x]) m = ld l m + (if x.1 ≤ m ∧ m < x.2.1 then x.2.2 else 0)
  | [] => by simp [ld]
  | (s, e, d) :: r => by
    rw [List.cons_append, ld, ld, ld_app m x r]; omega
theorem scan_app (f : Int → Int) (m : Int) : ∀ (ms : List Int) (b : Int × Int), scan f (ms ++ [m]) b = if f m > (scan f ms b).2 then (m, f m) else scan f ms b
  | [], b => rfl
  | x :: ms, b => scan_app f m ms _
theorem sps_one {js : List Jb} {pt : List Int} {i : Nat} {j : Jb} (h : js[i]? = some j) : sps (js.take (i + 1)) pt = sps (js.take i) pt ++ [(pt.getD j.1 0, pt.getD j.1 0 + j.2.1, j.2.2)] := by
  unfold sps
  rw [take_one h, List.map_append]; rfl
section
variable {P : Program} {w : World} {K : PySem.W.Frag} {mg : Str → Option Value} {base : Heap} {aT : Addr} {es : Array DictEntry} {nn : Nat}
abbrev s_Lsize : Stmt := topS 33
abbrev n_Lsize : List Str := ["wish"]
theorem sc_Lsize : FnScope n_Lsize ["wish"] (defScope s_Lsize) := ⟨rfl, rfl, rfl, by decide +kernel, rfl, by decide +kernel, by decide +kernel⟩
theorem ok_Lsize {f : Addr} {fd : FuncData} (F : Fun K "_law_size" "_law_size" s_Lsize f fd) : FnOk P w K mg base CX0 1 f fd ["wish"] spSize := by
  refine F.ok sc_Lsize (fun vs H Q E h => ?_) (fun cdv A outer s H vs Q E hr h => ?_)
  · obtain ⟨v, x, rfl, _⟩ := h
    rfl
  · obtain ⟨v, x, rfl, h, q⟩ := h
    refine ⟨_, (pss_one (ps_ret (pe_ifExp (pt_cmpR op_eq (pe_ix ix_tup (pv 0) pe_int (fun _ _ => rfl)) pe_str (nomark _)) pe_int (pe_ix ix_tup (pv 0) pe_int (fun _ _ => rfl))))), ?_⟩
    cases x with
    | bench js =>
      obtain ⟨p, u, us, rfl, hp, _⟩ := h
      exact ⟨_, rfl, p, _, 0, _, rfl, rfl, sq_tup hp, rfl, rfl, _, rfl, iteT q⟩
    | room js z =>
      obtain ⟨p, u, us, rfl, hp, _⟩ := h
      exact ⟨_, rfl, p, _, 0, _, rfl, rfl, sq_tup hp, rfl, rfl, _, rfl, iteF ⟨_, rfl, p, _, 2, _, rfl, rfl, sq_tup hp, rfl, q⟩⟩
abbrev s_Ljobs : Stmt := topS 32
abbrev n_Ljobs : List Str := ["wish", "job"]
theorem sc_Ljobs : FnScope n_Ljobs ["wish"] (defScope s_Ljobs) := ⟨rfl, rfl, rfl, by decide +kernel, rfl, by decide +kernel, by decide +kernel⟩
theorem ok_Ljobs {f : Addr} {fd : FuncData} (F : Fun K "_law_jobs" "_law_jobs" s_Ljobs f fd) (T : Txt K mg w aT es nn) : FnOk P w K mg base CX0 1 f fd ["wish"] spJobsOf := by
  refine F.ok sc_Ljobs (fun vs H Q E h => ?_) (fun cdv A outer s0 H vs Q E hr h => ?_)
  · obtain ⟨v, x, rfl, _⟩ := h
    rfl
  · obtain ⟨v, x, rfl, h, few, q⟩ := h
    refine ⟨_, (pss_cons (ps_if (pt_cmpR op_eq (pe_ix ix_tup (pv 0) pe_int (fun _ _ => rfl)) pe_str (nomark _)) (pss_one (ps_ret (pe_callTy call_tuple_of (by rfl) T.b_tuple (by decide +kernel) (pa_cons (pe_lc (own := [("job", 1)]) rfl sc_Ljobs.nd (pi_tup (pe_ix ix_tup (pv 0) pe_int (fun _ _ => rfl))) (blkOk_by (N := n_Ljobs) (sc := defScope s_Ljobs) (by decide +kernel)) (fun _ _ _ _ _ => (pg_name (i := 1) sc_Ljobs.nd rfl (.inl rfl))) (fun _ _ _ _ _ => pts_nil) (fun _ _ _ _ _ => (pe_tup (pa_cons (pe_ix (r := rIxT K) ix_tup (pv 1) pe_int (fun _ _ => rfl)) (pa_cons (pe_ix (r := rIxT K) ix_tup (pv 1) pe_int (fun _ _ => rfl)) (pa_cons pe_int pa_nil)))))) pa_nil)))) pss_nil)
      (pss_one (ps_ret (pe_ix ix_tup (pv 0) pe_int (fun _ _ => rfl))))), ?_⟩
    cases x with
    | room js z =>
      obtain ⟨p, u, us, rfl, hp, hu, a⟩ := h
      exact ⟨_, rfl, p, _, 0, _, rfl, rfl, sq_tup hp, rfl, rfl, _, rfl, iteF ⟨_, rfl, p, _, 1, _, rfl, rfl, sq_tup hp, rfl, q _ _ _ (Same.refl _) hu a⟩⟩
    | bench js =>
      obtain ⟨p, pj, us, rfl, hp, hpj, lv⟩ := h
      have few' : js.length ≤ 100 := by rw [show js.length = (Wh.bench js).jobs.length from (List.length_map _).symm]; exact few
      refine ⟨_, rfl, p, _, 0, _, rfl, rfl, sq_tup hp, rfl, rfl, _, rfl, iteT ?_⟩
      refine ⟨_, rfl, p, _, 1, _, rfl, rfl, sq_tup hp, rfl, pj, rfl, ⟨_, sq_tup hpj⟩, fun D nD => ?_⟩
      refine lc_tup (K := K) (a := pj) (xs := us) (fun i H' => ∃ vs, H' D = some (.lst vs) ∧ All2 (JV H') vs ((js.take i).map fun j => (j.1, j.2, 1)) ∧ Same H H') ⟨[], upd_same, .nil, same_upd nD⟩ (fun i H' _ h => by obtain ⟨_, _, _, sm⟩ := h; exact sq_tup (sm _ _ hpj)) ?_ ?_
      · rintro i x H2 hx ⟨vs, hD, fv, sm⟩
        obtain ⟨j, hj, pj', rfl, hpj'⟩ := lv.at_ hx
        have li : i < js.length := (List.getElem?_eq_some_iff.mp hj).1
        have h2 := sm _ _ hpj'
        refine ⟨rfl, _, rfl, pj', _, 0, _, rfl, rfl, sq_tup h2, rfl, _, rfl, pj', _, 1, _, rfl, rfl, sq_tup h2, rfl, len3, fun t nt => ?_⟩
        have k3 := same_upd (o := .tup [.int j.1, .int j.2, .int 1]) nt
        have et : upd H2 t (.tup [.int j.1, .int j.2, .int 1]) t = some (.tup [.int j.1, .int j.2, .int 1]) := upd_same
        have hD3 := k3 _ _ hD
        generalize upd H2 t (.tup [.int j.1, .int j.2, .int 1]) = H3 at *
        refine ⟨_, hD3, (by rw [fv.len, List.length_map, List.length_take]; exact small1000 (by omega)), vs ++ [.ref t], upd_same, ?_, same_at (sm.trans k3) nD⟩
        rw [take_one hj, List.map_append]
        exact jsTk (TK.put hD3) ((jsTk (TK.of k3) fv).app ⟨t, rfl, et⟩)
      · rintro H2 ⟨vs, hD, fv, sm⟩
        rw [lv.len, List.take_length] at fv
        refine ⟨D, _, rfl, .inl ⟨sq_lst hD, fun t nt => ?_⟩⟩
        have k3 := same_upd (o := .tup vs) nt
        exact q t vs _ (sm.trans k3) upd_same (jsTk (TK.of k3) fv)
abbrev s_Lruns : Stmt := topS 34
abbrev n_Lruns : List Str := ["job", "point", "moment"]
theorem sc_Lruns : FnScope n_Lruns ["job", "point", "moment"] (defScope s_Lruns) := ⟨rfl, rfl, rfl, by decide +kernel, rfl, by decide +kernel, by decide +kernel⟩
def spRuns : Sp := fun vs H Q _ => ∃ (v v2 : V) (j : Jb) (pt : List Int) (m : Int), vs = [v, v2, .int m] ∧ JV H v j ∧ LV H v2 pt ∧ j.1 < pt.length ∧ ∀ b, b = decide (pt.getD j.1 0 ≤ m ∧ m < pt.getD j.1 0 + j.2.1) → Q (.bl b) H
theorem ok_Lruns {f : Addr} {fd : FuncData} (F : Fun K "_law_runs" "_law_runs" s_Lruns f fd) : FnOk P w K mg base CX0 1 f fd ["job", "point", "moment"] spRuns := by
  refine F.ok sc_Lruns (fun vs H Q E h => ?_) (fun cdv A outer s H vs Q E hr h => ?_)
  · obtain ⟨v, v2, j, pt, m, rfl, _⟩ := h
    rfl
  · obtain ⟨v, v2, j, pt, m, rfl, ⟨pj, rfl, hpj⟩, ⟨pp, rfl, hpp⟩, lt, q⟩ := h
    refine ⟨_, (pss_one (ps_ret (pe_chain op_le op_lt pe_int (pe_op op_sub (pv 2) (pe_ix ix_tup (pv 1) (pe_ix ix_tup (pv 0) pe_int (fun _ _ => rfl)) (fun _ _ => rfl))) (pe_ix ix_tup (pv 0) pe_int (fun _ _ => rfl))))), ?_⟩
    refine ⟨_, rfl, _, rfl, _, rfl, pj, _, 0, _, rfl, rfl, sq_tup hpj, rfl, pp, _, (j.1 : Int), _, rfl, rfl, sq_tup hpp, atI_nat (ptAt lt), _, _, rfl, rfl, _, _, rfl, rfl, _, rfl, ite2 (fun h1 => ?_) (fun h1 => ?_)⟩
    · have h1 : 0 ≤ m - pt.getD j.1 0 := of_decide_eq_true h1
      refine ⟨_, rfl, pj, _, 1, _, rfl, rfl, sq_tup hpj, rfl, _, _, rfl, rfl, q _ ?_⟩
      show decide (m - pt.getD j.1 0 < j.2.1) = _
      rw [decide_eq_decide]; omega
    · have h1 : ¬ 0 ≤ m - pt.getD j.1 0 := fun z => h1 (decide_eq_true z)
      exact q _ (decide_eq_false (by omega)).symm
abbrev s_Lmoments : Stmt := topS 35
abbrev n_Lmoments : List Str := ["jobs", "point", "found", "place", "length", "need", "moment"]
theorem sc_Lmoments : FnScope n_Lmoments ["jobs", "point"] (defScope s_Lmoments) := ⟨rfl, rfl, rfl, by decide +kernel, rfl, by decide +kernel, by decide +kernel⟩
def spMoments : Sp := fun vs H Q _ => ∃ (v v2 : V) (js : List Jb) (pt : List Int), vs = [v, v2] ∧ JsV H v js ∧ LV H v2 pt ∧ (∀ j ∈ js, j.1 < pt.length) ∧ js.length ≤ 20 ∧ ∀ p ms H', Same H H' → H p = none → H' p = some (tL ms) → ms.Pairwise (· < ·) → (∀ x ∈ sps js pt, x.1 ∈ ms ∧ x.2.1 ∈ ms) → ms.length ≤ 80 → Q (.ref p) H'
theorem ok_Lmoments {f : Addr} {fd : FuncData} (F : Fun K "_law_moments" "_law_moments" s_Lmoments f fd) (T : Txt K mg w aT es nn) : FnOk P w K mg base CX0 1 f fd ["jobs", "point"] spMoments := by
  refine F.ok sc_Lmoments (fun vs H Q E h => ?_) (fun cdv A outer s0 H vs Q E hr h => ?_)
  · obtain ⟨v, v2, js, pt, rfl, _⟩ := h
    rfl
  · obtain ⟨v, v2, js, pt, rfl, ⟨pj, us, rfl, hpj, lv⟩, ⟨pp, rfl, hpp⟩, lt, few, q⟩ := h
    have lus := lv.len
    refine ⟨_, (pss_cons (ps_set (i := 2) sc_Lmoments.nd rfl (.inl rfl) (pe_lst pa_nil))
      (pss_cons (ps_for PassesOwn.never rfl (pi_tup (pv 0)) (pg_tup rfl (pgs_cons (pg_name (i := 3) sc_Lmoments.nd rfl (.inl rfl)) (pgs_cons (pg_name (i := 4) sc_Lmoments.nd rfl (.inl rfl)) (pgs_cons (pg_name (i := 5) sc_Lmoments.nd rfl (.inl rfl)) pgs_nil)))) (pss_one (ps_for PassesOwn.never rfl (pi_list (pe_lst (pa_cons (pe_op op_sub (pe_ix ix_tup (pv 1) (pv 3) (fun _ _ => rfl)) pe_int) (pa_cons (pe_ix ix_tup (pv 1) (pv 3) (fun _ _ => rfl)) (pa_cons (pe_op op_sub (pe_op op_add (pe_ix ix_tup (pv 1) (pv 3) (fun _ _ => rfl)) (pv 4)) pe_int) (pa_cons (pe_op op_add (pe_ix ix_tup (pv 1) (pv 3) (fun _ _ => rfl)) (pv 4)) pa_nil)))))) (pg_name (i := 6) sc_Lmoments.nd rfl (.inl rfl)) (pss_one (ps_if (pt_cmpR op_notIn_seq (pv 6) (pv 2) (by rfl)) (pss_one (ps_expr (pe_bm PySem.F.plainAttrs_list PySem.F.slot_list_append PySem.F.type_list_append mt_append (pv 2) (pa_cons (pv 6) pa_nil)))) pss_nil)))))
      (pss_one (ps_ret (pe_callB cr_sortedI (by rfl) T.b_sorted (by decide +kernel) (pa_cons (pv 2) pa_nil)))))), ?_⟩
    refine ⟨by show 0 ≤ _; exact Nat.zero_le _, fun l nl => ?_⟩
    have s1 : Same H (upd H l (.lst [])) := same_upd nl
    have hl1 : upd H l (.lst []) l = some (tL []) := upd_same
    generalize upd H l (.lst []) = H1 at *
    refine ⟨_, rfl, pj, rfl, ⟨_, sq_tup (s1 _ _ hpj)⟩, for_tup (K := K) (a := pj) (xs := us) (fun i σ H' => ∃ y3 y4 y5 y6 fs, σ = [some (.ref pj), some (.ref pp), some (.ref l), y3, y4, y5, y6] ∧ Same H H' ∧ H' l = some (tL fs) ∧ fs.Nodup ∧ fs.length ≤ 4 * i ∧ ∀ x ∈ sps (js.take i) pt, x.1 ∈ fs ∧ x.2.1 ∈ fs)
      ⟨none, none, none, none, [], rfl, s1, hl1, List.nodup_nil, Nat.zero_le _, fun x hx => by cases hx⟩ (fun i σ H' _ h => by obtain ⟨_, _, _, _, _, _, sm, _⟩ := h; exact sq_tup (sm _ _ hpj)) ?_ ?_⟩
    · rintro i y σ H' hy ⟨y3, y4, y5, y6, fs, rfl, sm, hl, nd, few4, cov⟩
      obtain ⟨j, hj, t, rfl, ht⟩ := lv.at_ hy
      have li : i < js.length := (List.getElem?_eq_some_iff.mp hj).1
      have ap := atI_nat (ptAt (lt j (List.mem_of_getElem? hj)))
      have hp2 := sm _ _ hpp
      refine ⟨t, _, rfl, sq_tup (sm _ _ ht), rfl, _, _, rfl, _, _, rfl, _, _, rfl, rfl, ?_⟩
      refine ⟨_, rfl, _, rfl, pp, _, (j.1 : Int), _, rfl, rfl, sq_tup hp2, ap, _, _, rfl, rfl, _, rfl, _, rfl, pp, _, (j.1 : Int), _, rfl, rfl, sq_tup hp2, ap, _, rfl, _, rfl, pp, _, (j.1 : Int), _, rfl, rfl, sq_tup hp2, ap, _, rfl, _, _, rfl, rfl, _, _, rfl, rfl, _, rfl, _, rfl, pp, _, (j.1 : Int), _, rfl, rfl, sq_tup hp2, ap, _, rfl, _, _, rfl, rfl, (by show 4 ≤ sizeLine; rw [sizeLine_eq]; omega), fun p2 np2 => ?_⟩
      generalize hst : pt.getD j.1 0 = st at *
      have k2 := same_upd (o := tL [st - 1, st, st + j.2.1 - 1, st + j.2.1]) np2
      have h2 : upd H' p2 (tL [st - 1, st, st + j.2.1 - 1, st + j.2.1]) p2 = some (tL [st - 1, st, st + j.2.1 - 1, st + j.2.1]) := upd_same
      have sm2 := sm.trans k2
      have hl2 := k2 _ _ hl
      have nlp : l ≠ p2 := ne_of_none hl np2
      show _
      have e4 : (HO.lst [V.int ((fun i j => i - j) st 1), V.int st, V.int ((fun i j => i - j) ((fun i j => i + j) st j.2.1) 1), V.int ((fun i j => i + j) st j.2.1)]) = tL [st - 1, st, st + j.2.1 - 1, st + j.2.1] := rfl
      refine ⟨p2, rfl, ⟨_, sq_lst upd_same⟩, ?_⟩
      refine for_list (K := K) (a := p2) (xs := [st - 1, st, st + j.2.1 - 1, st + j.2.1].map V.int) (fun j2 σ H' => ∃ y6 fs', σ = [some (.ref pj), some (.ref pp), some (.ref l), some (.int j.1), some (.int j.2.1), some (.int j.2.2), y6] ∧ Same H H' ∧ H' p2 = some (tL [st - 1, st, st + j.2.1 - 1, st + j.2.1]) ∧ H' l = some (tL fs') ∧ fs'.Nodup ∧ fs'.length ≤ 4 * i + j2 ∧ (∀ x ∈ sps (js.take i) pt, x.1 ∈ fs' ∧ x.2.1 ∈ fs') ∧ ∀ m ∈ [st - 1, st, st + j.2.1 - 1, st + j.2.1].take j2, m ∈ fs')
        ⟨y6, fs, rfl, sm2, h2, hl2, nd, few4, cov, fun m hm => by cases hm⟩ (fun i σ H' _ h => by obtain ⟨_, _, _, _, hp, _⟩ := h; exact sq_lst hp) ?_ ?_
      · rintro j2 y σ H4 hy2 ⟨y6, fs', rfl, sm4, h4, hl4, nd4, few5, cov4, got⟩
        obtain ⟨m, hm, rfl⟩ := at_map hy2
        have lj2 : j2 < 4 := (List.getElem?_eq_some_iff.mp hm).1
        refine ⟨_, rfl, _, rfl, l, _, rfl, .inl (sq_lst hl4), rfl, allflat fs', _, rfl, ?_⟩
        show (if (if true then !inV (.int m) (fs'.map V.int) else inV (.int m) (fs'.map V.int)) = true then _ else _)
        rw [if_pos rfl, inV_int]
        by_cases hin : m ∈ fs'
        · refine iteF' (by simp [hin]) ⟨_, fs', rfl, sm4, h4, hl4, nd4, by omega, cov4, fun y hy => ?_⟩
          rw [take_one hm] at hy
          rcases List.mem_append.mp hy with z | z
          · exact got y z
          · rw [List.mem_singleton.mp z]; exact hin
        · refine iteT' (by simp [hin]) ⟨_, rfl, .inl ⟨rfl, _, sq_lst hl4⟩, _, rfl, l, _, _, rfl, rfl, hl4, by rw [List.length_map]; exact small1000 (by omega), _, fs' ++ [m], rfl, same_at sm4 nl, by rw [upd_ne (Ne.symm nlp)]; exact h4, ?_, ?_, ?_, fun x hx => ⟨List.mem_append_left _ (cov4 x hx).1, List.mem_append_left _ (cov4 x hx).2⟩, fun y hy => ?_⟩
          · rw [upd_same]
            show some (HO.lst _) = some (HO.lst ((fs' ++ [m]).map V.int))
            rw [List.map_append]; rfl
          · rw [List.nodup_append]
            exact ⟨nd4, by simp, fun a ha b hb => by rw [List.mem_singleton.mp hb]; exact fun z => hin (z ▸ ha)⟩
          · rw [List.length_append]; show fs'.length + 1 ≤ _; omega
          · rw [take_one hm] at hy
            rcases List.mem_append.mp hy with z | z
            · exact List.mem_append_left _ (got y z)
            · exact List.mem_append_right _ z
      · rintro σ H4 ⟨y6, fs', rfl, sm4, h4, hl4, nd4, few5, cov4, got⟩
        refine ⟨_, _, _, _, fs', rfl, sm4, hl4, nd4, by have : ([st - 1, st, st + j.2.1 - 1, st + j.2.1].map V.int).length = 4 := rfl; omega, fun x hx => ?_⟩
        rw [sps_one hj] at hx
        rcases List.mem_append.mp hx with z | z
        · exact cov4 x z
        · rw [List.mem_singleton.mp z, hst]
          exact ⟨got _ (by simp), got _ (by simp)⟩
    · rintro σ H' ⟨y3, y4, y5, y6, fs, rfl, sm, hl, nd, few4, cov⟩
      rw [lus, List.take_length] at cov
      refine ⟨_, rfl, l, fs, rfl, sq_lst hl, fun ns p pm inc np => ?_⟩
      have k2 := same_upd (o := .lst (ns.map V.int)) np
      refine q p ns _ (sm.trans k2) (sm.free np) upd_same (lt_of_le_nodup ns inc (pm.nodup_iff.mpr nd)) (fun x hx => ⟨pm.mem_iff.mpr (cov x hx).1, pm.mem_iff.mpr (cov x hx).2⟩) ?_
      rw [pm.length_eq]; omega
abbrev s_Lneeds : Stmt := topS 36
abbrev n_Lneeds : List Str := ["jobs", "point", "moment", "job"]
theorem sc_Lneeds : FnScope n_Lneeds ["jobs", "point", "moment"] (defScope s_Lneeds) := ⟨rfl, rfl, rfl, by decide +kernel, rfl, by decide +kernel, by decide +kernel⟩
def spNeeds : Sp := fun vs H Q _ => ∃ (v v2 : V) (js : List Jb) (pt : List Int) (m : Int), vs = [v, v2, .int m] ∧ JsV H v js ∧ LV H v2 pt ∧ (∀ j ∈ js, j.1 < pt.length) ∧ js.length ≤ 20 ∧ ∀ H', Same H H' → Q (.int (ld (sps js pt) m)) H'
theorem ok_Lneeds {f : Addr} {fd : FuncData} (F : Fun K "_law_needs" "_law_needs" s_Lneeds f fd) (T : Txt K mg w aT es nn) (c_Lruns : Cal P w K mg base 1 "_law_runs" spRuns []) : FnOk P w K mg base CX0 2 f fd ["jobs", "point", "moment"] spNeeds := by
  refine F.ok sc_Lneeds (fun vs H Q E h => ?_) (fun cdv A outer s0 H vs Q E hr h => ?_)
  · obtain ⟨v, v2, js, pt, m, rfl, _⟩ := h
    rfl
  · obtain ⟨v, v2, js, pt, m, rfl, ⟨pj, us, rfl, hpj, lv⟩, hpt, lt, few, q⟩ := h
    have lus := lv.len
    refine ⟨_, (pss_one (ps_ret (pe_callB (cr_sum rfl) (by rfl) T.b_sum (by decide +kernel) (pa_cons (pe_lc (own := [("job", 3)]) rfl sc_Lneeds.nd (pi_tup (pv 0)) (blkOk_by (N := n_Lneeds) (sc := defScope s_Lneeds) (by decide +kernel)) (fun _ _ _ _ _ => (pg_name (i := 3) sc_Lneeds.nd rfl (.inl rfl))) (fun _ _ _ _ _ => (pts_one (pt_val (pe_c c_Lruns hr (by decide) (by rfl) (pa_cons (pv 3) (pa_cons (pv 1) (pa_cons (pv 2) pa_nil))))))) (fun _ _ _ _ _ => (pe_ix (r := rIxT K) ix_tup (pv 3) pe_int (fun _ _ => rfl)))) pa_nil)))), ?_⟩
    refine ⟨_, rfl, pj, rfl, ⟨_, sq_tup hpj⟩, fun D nD => ?_⟩
    refine lc_tup (K := K) (a := pj) (xs := us) (fun i H' => ∃ ns : List Int, H' D = some (tL ns) ∧ ns.sum = ld (sps (js.take i) pt) m ∧ ns.length ≤ i ∧ Same H H') ⟨[], upd_same, rfl, Nat.le_refl _, same_upd nD⟩ (fun i H' _ h => by obtain ⟨_, _, _, _, sm⟩ := h; exact sq_tup (sm _ _ hpj)) ?_ ?_
    · rintro i y H2 hy ⟨ns, hD, sum, ln, sm⟩
      obtain ⟨j, hj, hjv⟩ := lv.at_ hy
      have li : i < js.length := (List.getElem?_eq_some_iff.mp hj).1
      have hjv2 : JV H2 y j := T3.tk hjv (TK.of sm)
      refine ⟨rfl, _, rfl, _, rfl, _, rfl, y, v2, j, pt, m, rfl, hjv2, hpt.same sm, lt j (List.mem_of_getElem? hj), fun b hb => ⟨b, rfl, ?_⟩⟩
      subst hb
      have step : ld (sps (js.take (i + 1)) pt) m = ld (sps (js.take i) pt) m + (if pt.getD j.1 0 ≤ m ∧ m < pt.getD j.1 0 + j.2.1 then j.2.2 else 0) := by rw [sps_one hj, ld_app]
      refine ite2 (fun h1 => ?_) (fun h1 => ?_)
      · have h1 := of_decide_eq_true h1
        obtain ⟨pq, rfl, hpq⟩ := hjv2
        refine ⟨_, rfl, pq, _, 2, _, rfl, rfl, sq_tup hpq, rfl, _, hD, by rw [List.length_map]; exact small1000 (by omega), ns ++ [j.2.2], ?_, ?_, ?_, same_at sm nD⟩
        · rw [upd_same]
          show some (HO.lst _) = some (HO.lst ((ns ++ [j.2.2]).map V.int))
          rw [List.map_append]; rfl
        · rw [step, if_pos h1, List.sum_append, sum]; simp
        · rw [List.length_append]; show ns.length + 1 ≤ _; omega
      · have h1 : ¬ (pt.getD j.1 0 ≤ m ∧ m < pt.getD j.1 0 + j.2.1) := fun z => h1 (decide_eq_true z)
        exact ⟨ns, hD, by rw [step, if_neg h1, sum]; omega, by omega, sm⟩
    · rintro H2 ⟨ns, hD, sum, ln, sm⟩
      rw [lus, List.take_length] at sum
      refine ⟨D, ns, rfl, sq_lst hD, ?_⟩
      rw [sum]; exact q _ sm
abbrev s_Lmost : Stmt := topS 37
abbrev n_Lmost : List Str := ["jobs", "point", "best", "moment", "need"]
theorem sc_Lmost : FnScope n_Lmost ["jobs", "point"] (defScope s_Lmost) := ⟨rfl, rfl, rfl, by decide +kernel, rfl, by decide +kernel, by decide +kernel⟩
def spMost : Sp := fun vs H Q _ => ∃ (v v2 : V) (js : List Jb) (pt : List Int), vs = [v, v2] ∧ JsV H v js ∧ LV H v2 pt ∧ (∀ j ∈ js, j.1 < pt.length) ∧ js.length ≤ 20 ∧ Pos (sps js pt) ∧ js ≠ [] ∧ ∀ p m M H', Pk (sps js pt) m M → Same H H' → H' p = some (.tup [.int m, .int M]) → Q (.ref p) H'
theorem ok_Lmost {f : Addr} {fd : FuncData} (F : Fun K "_law_most" "_law_most" s_Lmost f fd) (T : Txt K mg w aT es nn) (c_Lmoments : Cal P w K mg base 2 "_law_moments" spMoments []) (c_Lneeds : Cal P w K mg base 2 "_law_needs" spNeeds []) : FnOk P w K mg base CX0 3 f fd ["jobs", "point"] spMost := by
  refine F.ok sc_Lmost (fun vs H Q E h => ?_) (fun cdv A outer s0 H vs Q E hr h => ?_)
  · obtain ⟨v, v2, js, pt, rfl, _⟩ := h
    rfl
  · obtain ⟨v, v2, js, pt, rfl, hjs, hpt, lt, few, pos, ne, q⟩ := h
    refine ⟨_, (pss_cons (ps_set (i := 2) sc_Lmost.nd rfl (.inl rfl) (pe_tup (pa_cons pe_int (pa_cons pe_int pa_nil))))
      (pss_cons (ps_for PassesOwn.never rfl (pi_list (pe_c c_Lmoments hr (by decide) (by rfl) (pa_cons (pv 0) (pa_cons (pv 1) pa_nil)))) (pg_name (i := 3) sc_Lmost.nd rfl (.inl rfl)) (pss_cons (ps_set (i := 4) sc_Lmost.nd rfl (.inl rfl) (pe_c c_Lneeds hr (by decide) (by rfl) (pa_cons (pv 0) (pa_cons (pv 1) (pa_cons (pv 3) pa_nil)))))
        (pss_one (ps_if (pt_cmpR op_gt (pv 4) (pe_ix ix_tup (pv 2) pe_int (fun _ _ => rfl)) (nomark _)) (pss_one (ps_set (i := 2) sc_Lmost.nd rfl (.inl rfl) (pe_tup (pa_cons (pv 3) (pa_cons (pv 4) pa_nil))))) pss_nil))))
      (pss_one (ps_ret (pv 2))))), ?_⟩
    refine ⟨len2, fun t0 nt0 => ?_⟩
    have s1 := same_upd (o := .tup [.int 0, .int 0]) nt0
    have h1 : upd H t0 (.tup [.int 0, .int 0]) t0 = some (.tup [.int 0, .int 0]) := upd_same
    generalize upd H t0 (.tup [.int 0, .int 0]) = H1 at *
    refine ⟨_, rfl, _, rfl, v, v2, js, pt, rfl, hjs.tk (TK.of s1), hpt.same s1, lt, few, fun p ms H2 s2 np hp inc cov lms => ?_⟩
    have s02 := s1.trans s2
    refine ⟨p, rfl, ⟨_, sq_lst hp⟩, for_list (K := K) (a := p) (xs := ms.map V.int) (fun i σ H' => ∃ bv y3 y4, σ = [some v, some v2, some bv, y3, y4] ∧ Same H2 H' ∧ P2 H' bv (scan (ld (sps js pt)) (ms.take i) (0, 0)))
      ⟨_, none, none, rfl, Same.refl _, ⟨t0, rfl, s2 _ _ h1⟩⟩ (fun i σ H' _ h => by obtain ⟨_, _, _, _, sm, _⟩ := h; exact sq_lst (sm _ _ hp)) ?_ ?_⟩
    · rintro i y σ H' hy ⟨bv, y3, y4, rfl, sm, pb, rfl, hpb⟩
      obtain ⟨m, hm, rfl⟩ := at_map hy
      have s03 := s02.trans sm
      refine ⟨_, rfl, _, rfl, _, rfl, v, v2, js, pt, m, rfl, hjs.tk (TK.of s03), hpt.same s03, lt, few, fun H4 s4 => ?_⟩
      have hpb4 := s4 _ _ hpb
      have sm4 := sm.trans s4
      have e := scan_app (ld (sps js pt)) m (ms.take i) (0, 0)
      rw [← take_one hm] at e
      refine ⟨_, rfl, _, rfl, pb, _, 1, _, rfl, rfl, sq_tup hpb4, rfl, _, _, rfl, rfl, _, rfl, ite2 (fun h1 => ?_) (fun h1 => ?_)⟩
      · have h1 : (scan (ld (sps js pt)) (ms.take i) (0, 0)).2 < ld (sps js pt) m := of_decide_eq_true h1
        refine ⟨_, rfl, _, rfl, len2, fun t nt => ⟨_, _, _, rfl, sm4.trans (same_upd nt), t, rfl, ?_⟩⟩
        rw [e, if_pos h1]; exact upd_same
      · have h1 : ¬ (scan (ld (sps js pt)) (ms.take i) (0, 0)).2 < ld (sps js pt) m := fun z => h1 (decide_eq_true z)
        refine ⟨_, _, _, rfl, sm4, pb, rfl, ?_⟩
        rw [e, if_neg h1]; exact hpb4
    · rintro σ H' ⟨bv, y3, y4, rfl, sm, pb, rfl, hpb⟩
      rw [List.length_map, List.take_length] at hpb
      have pk := scan_pk pos (fun z => ne (List.map_eq_nil_iff.mp z)) inc fun m hm => by
        obtain ⟨x, hx, z⟩ := mem_change hm
        rcases z with z | z
        · rw [← z]; exact (cov x hx).1
        · rw [← z]; exact (cov x hx).2
      exact ⟨_, rfl, q pb _ _ _ pk (s02.trans sm) hpb⟩
end
end M12

namespace M12
open PySem PySem.Spec PyProof.Rows L2 SX Own Gd
open C8 (Cal pe_c pe_gc pe_mk Mak pss_cut)
theorem rgV_nat (n : Nat) : rgV 0 (n : Int) = (natI (List.range n)).map V.int := by
  unfold rgV natI
  rw [show ((n : Int) - 0).toNat = n by omega, List.map_map]
  refine List.map_congr_left fun k _ => ?_
  show V.int (0 + (k : Int)) = V.int (k : Int)
  rw [Int.zero_add]
theorem natI_nat {ns : List Int} (h : ∀ c ∈ ns, 0 ≤ c) : natI (ns.map Int.toNat) = ns := by
  unfold natI
  rw [List.map_map]
  conv => rhs; rw [← List.map_id ns]
  refine List.map_congr_left fun i hi => ?_
  have := h i hi
  show ((i.toNat : Nat) : Int) = i
  omega
theorem natI_len (l : List Nat) : (natI l).length = l.length := List.length_map _
/-- the places that are drawn -/
theorem places_of {n many : Nat} {ys ns : List Int} (p1 : ys.Perm (natI (List.range n))) (p2 : ns.Perm (ys.take many)) (inc : ns.Pairwise (· ≤ ·)) (hm : many ≤ n) :
    ∃ pc : List Nat, ns = natI pc ∧ pc.Pairwise (· < ·) ∧ (∀ k ∈ pc, k < n) ∧ pc.length = many := by
  have rng : ∀ c ∈ ys, ∃ k : Nat, c = k ∧ k < n := fun c hc => by
    obtain ⟨k, hk, rfl⟩ := List.mem_map.mp (p1.mem_iff.mp hc)
    exact ⟨k, rfl, List.mem_range.mp hk⟩
  have rns : ∀ c ∈ ns, ∃ k : Nat, c = k ∧ k < n := fun c hc => rng c (List.mem_of_mem_take (p2.mem_iff.mp hc))
  have nd : ns.Nodup := by
    refine p2.nodup_iff.mpr ?_
    refine List.Nodup.sublist (List.take_sublist ..) ?_
    refine p1.nodup_iff.mpr ?_
    unfold natI
    exact List.Pairwise.map _ (fun a b (h : a ≠ b) => by omega) List.nodup_range
  have lt := lt_of_le_nodup ns inc nd
  refine ⟨ns.map Int.toNat, (natI_nat fun c hc => by obtain ⟨k, e, _⟩ := rns c hc; omega).symm, ?_, fun k hk => ?_, ?_⟩
  · rw [List.pairwise_map]
    refine List.Pairwise.imp_of_mem (fun {a b} ha hb h => ?_) lt
    obtain ⟨k, e, _⟩ := rns a ha
    obtain ⟨k2, e2, _⟩ := rns b hb
    omega
  · obtain ⟨c, hc, rfl⟩ := List.mem_map.mp hk
    obtain ⟨k, e, l⟩ := rns c hc
    omega
  · rw [List.length_map, p2.length_eq, List.length_take, p1.length_eq, natI_len, List.length_range]; omega
theorem ld_le {c : Int} (hc : 0 ≤ c) (m : Int) : ∀ l : List Sn, (∀ x ∈ l, x.2.2 ≤ c) → ld l m ≤ c * l.length
  | [], _ => by simp [ld]
  | (s, e, d) :: r, h => by
    have h1 : d ≤ c := h (s, e, d) (List.mem_cons_self ..)
    have h2 := ld_le hc m r fun x hx => h x (List.mem_cons_of_mem _ hx)
    simp only [ld, List.length_cons]
    rw [Int.natCast_add, Int.mul_add]
    split <;> simp <;> omega
/-- what the drawn wish is like -/
structure WB (far : Int) (pt : List Int) (x : Wh) : Prop where
  ok : WOk pt.length x
  z1 : 1 ≤ x.size
  z9 : x.size ≤ 100
  ln : ∀ j ∈ x.jobs, j.2.1 ≤ 1000
  nd : ∀ j ∈ x.jobs, j.2.2 ≤ 4
structure PB (far : Int) (pt : List Int) : Prop where
  lo : ∀ c ∈ pt, far ≤ c ∧ c < far + 9
  two : 2 ≤ pt.length
  few : pt.length ≤ 9
theorem PB.at_ {far : Int} {pt : List Int} (b : PB far pt) {k : Nat} (h : k < pt.length) : far ≤ pt.getD k 0 ∧ pt.getD k 0 < far + 9 := by
  rw [List.getD_eq_getElem?_getD, List.getElem?_eq_getElem h]
  exact b.lo _ (List.getElem_mem h)
theorem Kpt.tab {T : List (Addr × Str)} {h q : Addr} {H H' : Hp} (t : LamX.Tabs T H) (a : HpAt H h q) (k : Kpt h q H H') : LamX.Tabs T H' := fun p hp => by
  obtain ⟨ps, h1, h2, h3⟩ := t p hp
  obtain ⟨cs, st, a⟩ := a
  refine ⟨ps, k _ _ h1 (Own.ne_of h1 a.hh (by intro z; cases z)) (Own.ne_of h1 a.hq (by intro z; cases z)), h2, fun pos cv hc => ?_⟩
  obtain ⟨c, e1, e2⟩ := h3 pos cv hc
  exact ⟨c, e1, k _ _ e2 (Own.ne_of e2 a.hh codeO_lst) (Own.ne_of e2 a.hq codeO_lst)⟩
section
variable {P : Program} {w : World} {K : PySem.W.Frag} {mg : Str → Option Value} {base : Heap} {aT : Addr} {es : Array DictEntry} {nn : Nat}
abbrev s_Lwish : Stmt := topS 38
abbrev n_Lwish : List Str := ["heap", "point", "many", "places", "jobs", "place", "later", "gap", "long", "size", "other", "job"]
theorem sc_Lwish : FnScope n_Lwish ["heap", "point"] (defScope s_Lwish) := ⟨rfl, rfl, rfl, by decide +kernel, rfl, by decide +kernel, by decide +kernel⟩
def spWish : Sp := fun vs H Q _ => ∃ (h q : Addr) (v2 : V) (pt : List Int) (far : Int), vs = [.ref h, v2] ∧ HpAt H h q ∧ LV H v2 pt ∧ PB far pt ∧ ∀ v x H', WhV H' v x → WB far pt x → HpAt H' h q → Kpt h q H H' → Q v H'
theorem ok_Lwish {f : Addr} {fd : FuncData} (F : Fun K "_law_wish" "_law_wish" s_Lwish f fd) (T : Txt K mg w aT es nn) (c_Ldraw : Cal P w K mg base 1 "_law_draw" spDraw []) (c_Lpick : Cal P w K mg base 2 "_law_pick" spPick []) (c_Lmixed : Cal P w K mg base 2 "_law_mixed" spMixed []) (c_Lmost : Cal P w K mg base 3 "_law_most" spMost []) : FnOk P w K mg base CX0 4 f fd ["heap", "point"] spWish := by
  refine F.ok sc_Lwish (fun vs H Q E h => ?_) (fun cdv A outer s0 H vs Q E hr h => ?_)
  · obtain ⟨h, q, v2, pt, far, rfl, _⟩ := h
    rfl
  · obtain ⟨h, q, v2, pt, far, rfl, a, ⟨pp, rfl, hpp⟩, pb, k⟩ := h
    refine ⟨_, (pss_cons (ps_set (i := 2) sc_Lwish.nd rfl (.inl rfl) (pe_op op_add pe_int (pe_c c_Ldraw hr (by decide) (by rfl) (pa_cons (pv 0) (pa_cons (pe_callB (call_min2 rfl) (by rfl) T.b_min (by decide +kernel) (pa_cons pe_int (pa_cons (pe_op op_sub (pe_callB call_len_seq (by rfl) T.b_len (by decide +kernel) (pa_cons (pv 1) pa_nil)) pe_int) pa_nil))) pa_nil)))))
      (pss_cut (ps_set (i := 3) sc_Lwish.nd rfl (.inl rfl) (pe_callB cr_sortedI (by rfl) T.b_sorted (by decide +kernel) (pa_cons (pe_slice sl_list (pe_c c_Lmixed hr (by decide) (by rfl) (pa_cons (pv 0) (pa_cons (pe_listRg rfl (by rfl) T.b_list (prg_1 (by rfl) T.b_range (pe_callB call_len_seq (by rfl) T.b_len (by decide +kernel) (pa_cons (pv 1) pa_nil)))) pa_nil))) po_none (po_some (pv 2))) pa_nil)))
      (pss_cons (ps_if (pt_cmpR op_eq (pe_c c_Ldraw hr (by decide) (by rfl) (pa_cons (pv 0) (pa_cons pe_int pa_nil))) pe_int (nomark _)) (pss_cons (ps_set (i := 4) sc_Lwish.nd rfl (.inl rfl) (pe_lst pa_nil))
        (pss_cons (ps_for PassesOwn.never rfl (pi_list (pv 3)) (pg_name (i := 5) sc_Lwish.nd rfl (.inr rfl)) (pss_cut (ps_setLc (i := 6) (own := [("other", 10)]) rfl sc_Lwish.nd rfl rfl (sw_true rfl rfl rfl (by decide +kernel)) (pi_list (pv 3)) (blkOk_by (N := n_Lwish) (sc := defScope s_Lwish) (by decide +kernel)) (fun _ _ _ _ _ => (pg_name (i := 10) sc_Lwish.nd rfl (.inl rfl))) (fun _ _ _ _ _ => (pts_one (pt_cmpR op_gt (pe_ix (r := rIxT K) ix_tup (pv 1) (pv 10) (fun _ _ => rfl)) (pe_ix (r := rIxT K) ix_tup (pv 1) (pv 5) (fun _ _ => rfl)) (nomark _)))) (fun _ _ _ _ _ => (pe_op op_sub (pe_ix (r := rIxT K) ix_tup (pv 1) (pv 10) (fun _ _ => rfl)) (pe_ix (r := rIxT K) ix_tup (pv 1) (pv 5) (fun _ _ => rfl)))))
          (pss_cut (ps_set (i := 7) sc_Lwish.nd rfl (.inl rfl) (pe_ifExp (pt_cmpR (op_neD hr.units) (pv 6) (pe_lst pa_nil) (nomark _)) (pe_callB (cr_min rfl) (by rfl) T.b_min (by decide +kernel) (pa_cons (pv 6) pa_nil)) (pe_c c_Lpick hr (by decide) (by rfl) (pa_cons (pv 0) (pa_cons (pe_lst (pa_cons pe_int (pa_cons pe_int (pa_cons pe_int pa_nil)))) pa_nil)))))
          (pss_one (ps_expr (pe_bm PySem.F.plainAttrs_list PySem.F.slot_list_append PySem.F.type_list_append mt_append (pv 4) (pa_cons (pe_tup (pa_cons (pv 5) (pa_cons (pe_callB (call_max2 rfl) (by rfl) T.b_max (by decide +kernel) (pa_cons pe_int (pa_cons (pe_op op_sub (pv 7) (pe_c c_Lpick hr (by decide) (by rfl) (pa_cons (pv 0) (pa_cons (pe_lst (pa_cons pe_int (pa_cons pe_int (pa_cons pe_int (pa_cons pe_int (pa_cons pe_int (pa_cons (pe_un un_neg pe_int) pa_nil))))))) pa_nil)))) pa_nil))) pa_nil))) pa_nil)))))))
        (pss_one (ps_ret (pe_tup (pa_cons pe_str (pa_cons (pe_callTy call_tuple_of (by rfl) T.b_tuple (by decide +kernel) (pa_cons (pv 4) pa_nil)) pa_nil))))))) pss_nil)
      (pss_cut (ps_set (i := 8) sc_Lwish.nd rfl (.inr rfl) (pe_c c_Lpick hr (by decide) (by rfl) (pa_cons (pv 0) (pa_cons (pe_lst (pa_cons pe_int (pa_cons pe_int (pa_cons pe_int (pa_cons pe_int pa_nil))))) pa_nil))))
      (pss_cut (ps_set (i := 4) sc_Lwish.nd rfl (.inl rfl) (pe_callTy call_tuple_of (by rfl) T.b_tuple (by decide +kernel) (pa_cons (pe_lc (own := [("place", 5)]) rfl sc_Lwish.nd (pi_list (pv 3)) (blkOk_by (N := n_Lwish) (sc := defScope s_Lwish) (by decide +kernel)) (fun _ _ _ _ _ => (pg_name (i := 5) sc_Lwish.nd rfl (.inl rfl))) (fun _ _ _ _ _ => pts_nil) (fun _ _ _ _ _ => (pe_tup (pa_cons (pv 5) (pa_cons (pe_op op_add pe_int (pe_c c_Ldraw hr (by decide) (by rfl) (pa_cons (pv 0) (pa_cons (pv 8) pa_nil)))) (pa_cons (pe_op op_add pe_int (pe_c c_Ldraw hr (by decide) (by rfl) (pa_cons (pv 0) (pa_cons pe_int pa_nil)))) pa_nil)))))) pa_nil)))
      (pss_cut (ps_set (i := 9) sc_Lwish.nd rfl (.inl rfl) (pe_op op_add (pe_ix ix_tup (pe_c c_Lmost hr (by decide) (by rfl) (pa_cons (pv 4) (pa_cons (pv 1) pa_nil))) pe_int (fun _ _ => rfl)) (pe_c c_Lpick hr (by decide) (by rfl) (pa_cons (pv 0) (pa_cons (pe_lst (pa_cons pe_int (pa_cons pe_int (pa_cons pe_int (pa_cons (pe_un un_neg pe_int) (pa_cons (pe_un un_neg pe_int) (pa_cons pe_int pa_nil))))))) pa_nil)))))
      (pss_one (ps_ret (pe_tup (pa_cons pe_str (pa_cons (pv 4) (pa_cons (pe_callB (call_max2 rfl) (by rfl) T.b_max (by decide +kernel) (pa_cons (pv 9) (pa_cons (pe_callB (cr_max rfl) (by rfl) T.b_max (by decide +kernel) (pa_cons (pe_lc (own := [("job", 11)]) rfl sc_Lwish.nd (pi_tup (pv 4)) (blkOk_by (N := n_Lwish) (sc := defScope s_Lwish) (by decide +kernel)) (fun _ _ _ _ _ => (pg_name (i := 11) sc_Lwish.nd rfl (.inl rfl))) (fun _ _ _ _ _ => pts_nil) (fun _ _ _ _ _ => (pe_ix (r := rIxT K) ix_tup (pv 11) pe_int (fun _ _ => rfl)))) pa_nil)) pa_nil))) pa_nil)))))))))))), ?_⟩
    have two := pb.two
    have few := pb.few
    refine ⟨_, rfl, _, rfl, pp, _, rfl, .inr (sq_tup hpp), _, _, rfl, rfl, _, _, rfl, h, q, _, rfl, a, ?_, ?_, fun d H1 d0 d1 a1 kp1 => ?_⟩
    · rw [List.length_map]; split <;> omega
    · rw [List.length_map]; split <;> omega
    refine ⟨_, _, rfl, rfl, ?_⟩
    rw [List.length_map] at d1
    obtain ⟨many, em⟩ : ∃ many : Nat, 2 + d = many := ⟨(2 + d).toNat, by omega⟩
    have mle : many ≤ pt.length := by revert d1; split <;> omega
    have m7 : many ≤ 7 := by revert d1; split <;> omega
    have m2 : 2 ≤ many := by omega
    have em' : (fun i j : Int => V.int (i + j)) 2 d = V.int (many : Int) := congrArg V.int em
    rw [em']
    have hp1 : H1 pp = some (tI pt) := TK.kp kp1 a _ _ hpp
    refine ⟨fun σ H' => ∃ pl pc, σ = [some (.ref h), some (.ref pp), some (.int (many : Int)), some (.ref pl), none, none, none, none, none, none, none, none] ∧ HpAt H' h q ∧ Kpt h q H H' ∧ H' pl = some (tL (natI pc)) ∧ pl ≠ h ∧ pl ≠ q ∧ pc.Pairwise (· < ·) ∧ (∀ k ∈ pc, k < pt.length) ∧ pc.length = many, ?_, fun σ H2 hM => ?_⟩
    · refine ⟨_, rfl, _, rfl, pp, _, rfl, .inr (sq_tup hp1), _, rfl, by rw [List.length_map]; exact RgOk.of_le (by omega) (by omega) (by omega) (by omega), fun q0 nq0 => ?_⟩
      have s1 := same_upd (o := .lst (rgV 0 ((pt.map V.int).length : Int))) nq0
      have h1 : upd H1 q0 (.lst (rgV 0 ((pt.map V.int).length : Int))) q0 = some (tL (natI (List.range pt.length))) := by rw [upd_same, List.length_map, rgV_nat]; rfl
      have a2 := a1.same s1
      obtain ⟨q01, q02⟩ := a1.fresh nq0
      have kp2 := kp1.trans (.of_same (h := h) (q := q) s1)
      generalize upd H1 q0 (.lst (rgV 0 ((pt.map V.int).length : Int))) = H2 at *
      refine ⟨h, q, q0, _, rfl, a2, h1, q01, q02, by rw [natI_len, List.length_range]; omega, fun r ys H3 pm a3 kp3 nr hr3 => ?_⟩
      refine ⟨_, rfl, _, rfl, r, _, rfl, sq_lst hr3, fun u nu => ?_⟩
      rw [cut_to (by omega), Int.toNat_natCast, ← List.map_take]
      have s4 := same_upd (o := .lst ((ys.take many).map V.int)) nu
      have hu : upd H3 u (.lst ((ys.take many).map V.int)) u = some (tL (ys.take many)) := upd_same
      have a4 := a3.same s4
      have kp4 := (kp2.trans kp3).trans (.of_same (h := h) (q := q) s4)
      generalize upd H3 u (.lst ((ys.take many).map V.int)) = H4 at *
      refine ⟨u, _, rfl, sq_lst hu, fun ns p pm2 inc np => ?_⟩
      obtain ⟨pc, e, lt, rng, ln⟩ := places_of pm pm2 inc mle
      have s5 := same_upd (o := .lst (ns.map V.int)) np
      obtain ⟨p1, p2⟩ := a4.fresh np
      exact ⟨p, pc, rfl, a4.same s5, kp4.trans (.of_same s5), by rw [upd_same, e]; rfl, p1, p2, lt, rng, ln⟩
    obtain ⟨pl, pc, rfl, a2, kp2, hpl, pl1, pl2, lt, rng, lnp⟩ := hM
    refine ⟨_, rfl, h, q, 3, rfl, a2, by decide, by decide, fun d3 H3 _ _ a3 kp3 => ?_⟩
    have kp03 := kp2.trans kp3
    have hpl3 := kp3 _ _ hpl pl1 pl2
    have lnp' : (natI pc).length = many := by rw [natI_len]; exact lnp
    refine ⟨rfl, _, rfl, ite2 (fun _ => ?_) (fun _ => ?_)⟩
    · refine ⟨by show 0 ≤ _; exact Nat.zero_le _, fun lj nlj => ?_⟩
      have s4 := same_upd (o := .lst []) nlj
      have hlj : upd H3 lj (.lst []) lj = some (.lst []) := upd_same
      have a4 := a3.same s4
      have kp4 := kp03.trans (.of_same (h := h) (q := q) s4)
      have hpl4 := s4 _ _ hpl3
      obtain ⟨lj1, lj2⟩ := a3.fresh nlj
      have ljl : lj ≠ pl := (ne_of_none hpl3 nlj).symm
      have nljH : H lj = none := by
        cases e : H lj with
        | none => rfl
        | some o => rw [kp03 _ _ e lj1 lj2] at nlj; cases nlj
      generalize upd H3 lj (.lst []) = H4 at *
      refine ⟨_, rfl, pl, rfl, ⟨_, sq_lst hpl4⟩, for_list (K := K) (a := pl) (xs := (natI pc).map V.int) (fun i σ H' => ∃ y5 y6 y7 y10 us bj, σ = [some (.ref h), some (.ref pp), some (.int (many : Int)), some (.ref pl), some (.ref lj), y5, y6, y7, none, none, y10, none] ∧ HpAt H' h q ∧ Kpt h q H H' ∧ H' pl = some (tL (natI pc)) ∧ H' lj = some (.lst us) ∧ All2 (BV H') us bj ∧ bj.map (·.1) = pc.take i ∧ ∀ j ∈ bj, 1 ≤ j.2 ∧ j.2 ≤ 1000)
        ⟨none, none, none, none, [], [], rfl, a4, kp4, hpl4, hlj, .nil, rfl, fun j hj => by cases hj⟩ (fun i σ H' _ h => by obtain ⟨_, _, _, _, _, _, _, _, _, hp, _⟩ := h; exact sq_lst hp) ?_ ?_⟩
      · rintro i y σ H' hy ⟨y5, y6, y7, y10, us, bj, rfl, a', kp', hpl', hlj', bv, fst, bnd⟩
        obtain ⟨kI, hkI, rfl⟩ := at_map hy
        unfold natI at hkI
        rw [List.getElem?_map] at hkI
        obtain ⟨k, hk, rfl⟩ := Option.map_eq_some_iff.mp hkI
        have kn := rng k (List.mem_of_getElem? hk)
        have ip : i < pc.length := (List.getElem?_eq_some_iff.mp hk).1
        have hp' : H' pp = some (tI pt) := TK.kp kp' a _ _ hpp
        have k9 := pb.at_ kn
        refine ⟨fun σ H2 => ∃ y10 lt ls, σ = [some (.ref h), some (.ref pp), some (.int (many : Int)), some (.ref pl), some (.ref lj), some (.int (k : Nat)), some (.ref lt), y7, none, none, y10, none] ∧ Same H' H2 ∧ H2 lt = some (tL ls) ∧ ∀ c ∈ ls, 1 ≤ c ∧ c ≤ 9, ?_, fun σ H5 hM => ?_⟩
        · refine ⟨_, rfl, pl, rfl, ⟨_, sq_lst hpl'⟩, fun D nD => ?_⟩
          refine lc_list (K := K) (a := pl) (xs := (natI pc).map V.int) (fun i H2 => ∃ ls, H2 D = some (tL ls) ∧ (∀ c ∈ ls, 1 ≤ c ∧ c ≤ 9) ∧ ls.length ≤ i ∧ Same H' H2) ⟨[], upd_same, fun c hc => (nomatch hc), Nat.le_refl _, same_upd nD⟩ (fun i H2 _ h => by obtain ⟨_, _, _, _, sm⟩ := h; exact sq_lst (sm _ _ hpl')) ?_ ?_
          · rintro i2 y2 H5 hy2 ⟨ls, hD, bd, ln, sm⟩
            obtain ⟨oI, hoI, rfl⟩ := at_map hy2
            unfold natI at hoI
            rw [List.getElem?_map] at hoI
            obtain ⟨o, ho, rfl⟩ := Option.map_eq_some_iff.mp hoI
            have on := rng o (List.mem_of_getElem? ho)
            have i2p : i2 < pc.length := (List.getElem?_eq_some_iff.mp ho).1
            have o9 := pb.at_ on
            have hp5 := sm _ _ hp'
            refine ⟨rfl, _, rfl, _, rfl, pp, _, (o : Int), _, rfl, rfl, sq_tup hp5, atI_nat (ptAt on), _, rfl, _, rfl, pp, _, (k : Int), _, rfl, rfl, sq_tup hp5, atI_nat (ptAt kn), _, _, rfl, rfl, _, rfl, ite2 (fun h1 => ?_) (fun h1 => ⟨ls, hD, bd, by omega, sm⟩)⟩
            have h1 : pt.getD k 0 < pt.getD o 0 := of_decide_eq_true h1
            refine ⟨_, rfl, _, rfl, pp, _, (o : Int), _, rfl, rfl, sq_tup hp5, atI_nat (ptAt on), _, rfl, _, rfl, pp, _, (k : Int), _, rfl, rfl, sq_tup hp5, atI_nat (ptAt kn), _, _, rfl, rfl, _, hD, by rw [List.length_map]; exact small1000 (by omega), ls ++ [pt.getD o 0 - pt.getD k 0], ?_, fun c hc => ?_, by rw [List.length_append]; exact Nat.succ_le_succ ln, same_at sm nD⟩
            · rw [upd_same]
              show some (HO.lst _) = some (HO.lst ((ls ++ [pt.getD o 0 - pt.getD k 0]).map V.int))
              rw [List.map_append]; rfl
            · rcases List.mem_append.mp hc with z | z
              · exact bd c z
              · rw [List.mem_singleton.mp z]; omega
          · rintro H5 ⟨ls, hD, bd, ln, sm⟩
            exact ⟨_, _, ls, rfl, sm, hD, bd⟩
        obtain ⟨y10, lt0, ls, rfl, sm, hlt, bd⟩ := hM
        have a5 := a'.same sm
        have kp5 := kp'.trans (.of_same (h := h) (q := q) sm)
        have hpl5 := sm _ _ hpl'
        have hlj5 := sm _ _ hlj'
        have bv5 := bsTk (TK.of sm) bv
        refine ⟨fun σ H2 => ∃ g, σ = [some (.ref h), some (.ref pp), some (.int (many : Int)), some (.ref pl), some (.ref lj), some (.int (k : Nat)), some (.ref lt0), some (.int g), none, none, y10, none] ∧ 1 ≤ g ∧ g ≤ 900 ∧ HpAt H2 h q ∧ Kpt h q H H2 ∧ H2 pl = some (tL (natI pc)) ∧ H2 lj = some (.lst us) ∧ All2 (BV H2) us bj, ?_, fun σ H6 hM => ?_⟩
        · refine ⟨_, rfl, Nat.zero_le _, fun u nu => ?_⟩
          have s6 : Same H5 (upd H5 u (.lst [])) := same_upd nu
          have hu : upd H5 u (.lst []) u = some (.lst []) := upd_same
          have hlt6 := s6 _ _ hlt
          have a6 := a5.same s6
          have kp6 := kp5.trans (.of_same (h := h) (q := q) s6)
          have hpl6 := s6 _ _ hpl5
          have hlj6 := s6 _ _ hlj5
          have bv6 := bsTk (TK.of s6) bv5
          generalize upd H5 u (.lst []) = H6 at *
          refine ⟨_, _, dp_intsD hlt6, .lst (sq_lst hu) .nil, shp_ints ls, shp_ints [], _, rfl, ?_⟩
          rw [ne_nil_eqv]
          cases ls with
          | nil =>
            refine iteF' (by decide) ?_
            refine ⟨_, rfl, by show 3 ≤ sizeLine; rw [sizeLine_eq]; omega, fun p np => ?_⟩
            have s7 := same_upd (o := .lst [.int 1, .int 5, .int 900]) np
            obtain ⟨p1, p2⟩ := a6.fresh np
            refine ⟨h, q, p, _, rfl, a6.same s7, .inl ⟨upd_same, p1, p2⟩, by simp, by show 3 ≤ 1000; decide, fun v H8 mv a8 kp8 => ?_⟩
            obtain ⟨g, rfl, g1, g9⟩ : ∃ g, v = .int g ∧ 1 ≤ g ∧ g ≤ 900 := by
              simp only [List.mem_cons, List.not_mem_nil, or_false] at mv
              rcases mv with rfl | rfl | rfl <;> exact ⟨_, rfl, by decide, by decide⟩
            have t8 := (TK.of s7).trans (TK.kp kp8 (a6.same s7))
            exact ⟨g, rfl, g1, g9, a8, (kp6.trans (.of_same s7)).trans kp8, kp8 _ _ (s7 _ _ hpl6) pl1 pl2, kp8 _ _ (s7 _ _ hlj6) lj1 lj2, bsTk t8 bv6⟩
          | cons c0 r0 =>
            refine iteT' (by rfl) ?_
            refine ⟨_, rfl, lt0, _, rfl, sq_lst hlt6, Nat.succ_pos _, fun m hm _ => ?_⟩
            have := bd m hm
            exact ⟨m, rfl, by omega, by omega, a6, kp6, hpl6, hlj6, bv6⟩
        obtain ⟨g, rfl, g1, g9, a6, kp6, hpl6, hlj6, bv6⟩ := hM
        refine ⟨_, rfl, .inl ⟨rfl, _, sq_lst hlj6⟩, _, rfl, _, rfl, _, rfl, _, rfl, by show 6 ≤ sizeLine; rw [sizeLine_eq]; omega, fun p np => ?_⟩
        have s7 := same_upd (o := .lst [.int 0, .int 0, .int 0, .int 0, .int 1, .int (-1)]) np
        obtain ⟨p1, p2⟩ := a6.fresh np
        refine ⟨h, q, p, _, rfl, a6.same s7, .inl ⟨upd_same, p1, p2⟩, by simp, by show 6 ≤ 1000; decide, fun v H8 mv a8 kp8 => ?_⟩
        obtain ⟨g2, rfl, g3, g4⟩ : ∃ g, v = .int g ∧ -1 ≤ g ∧ g ≤ 1 := by
          simp only [List.mem_cons, List.not_mem_nil, or_false] at mv
          rcases mv with rfl | rfl | rfl | rfl | rfl | rfl <;> exact ⟨_, rfl, by decide, by decide⟩
        have t8 := (TK.of s7).trans (TK.kp kp8 (a6.same s7))
        have hlj8 := kp8 _ _ (s7 _ _ hlj6) lj1 lj2
        have hpl8 := kp8 _ _ (s7 _ _ hpl6) pl1 pl2
        refine ⟨_, _, rfl, rfl, _, _, rfl, len2, fun t nt => ?_⟩
        generalize hgv : (if g - g2 > 1 then g - g2 else 1) = gv at *
        have gvb : 1 ≤ gv ∧ gv ≤ 1000 := by rw [← hgv]; split <;> omega
        have k9 := same_upd (o := .tup [.int (k : Nat), .int gv]) nt
        have et : upd H8 t (.tup [.int (k : Nat), .int gv]) t = some (.tup [.int (k : Nat), .int gv]) := upd_same
        have hlj9 := k9 _ _ hlj8
        have hpl9 := k9 _ _ hpl8
        have a9 := a8.same k9
        have kp9 := ((kp6.trans (.of_same s7)).trans kp8).trans (.of_same (h := h) (q := q) k9)
        have bv9 := bsTk (t8.trans (TK.of k9)) bv6
        have lus := bv9.len
        have lbj : bj.length = i := by have := congrArg List.length fst; rw [List.length_map, List.length_take] at this; omega
        generalize upd H8 t (.tup [.int (k : Nat), .int gv]) = H9 at *
        refine ⟨lj, us, _, rfl, rfl, hlj9, small1000 (by omega), ?_⟩
        refine ⟨_, _, _, _, us ++ [.ref t], bj ++ [(k, gv)], rfl, a9.upd lj1 lj2, kp9.at_new nljH, by rw [upd_ne ljl.symm]; exact hpl9, upd_same, (bsTk (TK.put hlj9) bv9).app ⟨t, rfl, (TK.put hlj9) _ _ et⟩, by rw [List.map_append, fst, take_one hk]; rfl, fun j hj => ?_⟩
        rcases List.mem_append.mp hj with z | z
        · exact bnd j z
        · rw [List.mem_singleton.mp z]; exact gvb
      · rintro σ H' ⟨y5, y6, y7, y10, us, bj, rfl, a', kp', hpl', hlj', bv, fst, bnd⟩
        rw [List.length_map, natI_len, List.take_length] at fst
        have lbj : bj.length = many := by rw [← lnp, ← fst, List.length_map]
        refine ⟨_, rfl, lj, us, rfl, .inl ⟨sq_lst hlj', fun t nt => ?_⟩⟩
        have k1 := same_upd (o := .tup us) nt
        have ht : upd H' t (.tup us) t = some (.tup us) := upd_same
        have a1 := a'.same k1
        have kpA := kp'.trans (.of_same (h := h) (q := q) k1)
        have bvA := bsTk (TK.of k1) bv
        generalize upd H' t (.tup us) = HA at *
        refine ⟨len2, fun t2 nt2 => ?_⟩
        have k2 := same_upd (o := .tup [.str "bench", .ref t]) nt2
        have mj : ∀ j ∈ (Wh.bench bj).jobs, ∃ b ∈ bj, j = (b.1, b.2, 1) := fun j hj => by
          obtain ⟨b, hb, rfl⟩ := List.mem_map.mp hj
          exact ⟨b, hb, rfl⟩
        have lj' : (Wh.bench bj).jobs.length = bj.length := List.length_map ..
        refine k _ (.bench bj) _ ⟨t2, t, us, rfl, upd_same, k2 _ _ ht, bsTk (TK.of k2) bvA⟩ ⟨⟨fun j hj => ?_, fun j hj => ?_, fun j hj => ?_, fun j hj => ?_, fun j hj => ?_, by omega, fun z => by rw [z] at lj'; simp at lj'; omega⟩, by show (1 : Int) ≤ 1; decide, by show (1 : Int) ≤ 100; decide, fun j hj => ?_, fun j hj => ?_⟩ (a1.same k2) (kpA.trans (.of_same k2)) <;> obtain ⟨b, hb, rfl⟩ := mj j hj
        · exact rng b.1 (by rw [← fst]; exact List.mem_map.mpr ⟨b, hb, rfl⟩)
        · exact (bnd b hb).1
        · show (1 : Int) ≤ 1; decide
        · show (1 : Int) ≤ 1000000000; decide
        · have := (bnd b hb).2; show b.2 ≤ 1000000000; omega
        · exact (bnd b hb).2
        · show (1 : Int) ≤ 4; decide
    · refine ⟨fun σ H' => ∃ lg y6 y7 y10 y11, σ = [some (.ref h), some (.ref pp), some (.int (many : Int)), some (.ref pl), none, none, y6, y7, some (.int lg), none, y10, y11] ∧ 1 ≤ lg ∧ lg ≤ 40 ∧ HpAt H' h q ∧ Kpt h q H H' ∧ H' pl = some (tL (natI pc)), ?_, fun σ H4 hM => ?_⟩
      · refine ⟨_, rfl, by show 4 ≤ sizeLine; rw [sizeLine_eq]; omega, fun p np => ?_⟩
        have s7 := same_upd (o := .lst [.int 3, .int 6, .int 6, .int 40]) np
        obtain ⟨p1, p2⟩ := a3.fresh np
        refine ⟨h, q, p, _, rfl, a3.same s7, .inl ⟨upd_same, p1, p2⟩, by simp, by show 4 ≤ 1000; decide, fun v H8 mv a8 kp8 => ?_⟩
        obtain ⟨g, rfl, g1, g9⟩ : ∃ g, v = .int g ∧ 1 ≤ g ∧ g ≤ 40 := by
          simp only [List.mem_cons, List.not_mem_nil, or_false] at mv
          rcases mv with rfl | rfl | rfl | rfl <;> exact ⟨_, rfl, by decide, by decide⟩
        exact ⟨g, _, _, _, _, rfl, g1, g9, a8, (kp03.trans (.of_same s7)).trans kp8, kp8 _ _ (s7 _ _ hpl3) pl1 pl2⟩
      obtain ⟨lg, y6, y7, y10, y11, rfl, lg1, lg40, a4, kp4, hpl4⟩ := hM
      refine ⟨fun σ H' => ∃ tj js y5 y6 y7 y10 y11, σ = [some (.ref h), some (.ref pp), some (.int (many : Int)), some (.ref pl), some (.ref tj), y5, y6, y7, some (.int lg), none, y10, y11] ∧ HpAt H' h q ∧ Kpt h q H H' ∧ JsV H' (.ref tj) js ∧ js.map (·.1) = pc ∧ ∀ j ∈ js, (1 ≤ j.2.1 ∧ j.2.1 ≤ 40) ∧ 1 ≤ j.2.2 ∧ j.2.2 ≤ 4, ?_, fun σ H5 hM => ?_⟩
      · refine ⟨_, rfl, pl, rfl, ⟨_, sq_lst hpl4⟩, fun D nD => ?_⟩
        obtain ⟨D1, D2⟩ := a4.fresh nD
        have nDH : H D = none := by
          cases e : H D with
          | none => rfl
          | some o => rw [kp4 _ _ e D1 D2] at nD; cases nD
        have sD := same_upd (o := .lst []) nD
        refine lc_list (K := K) (a := pl) (xs := (natI pc).map V.int) (fun i H' => ∃ us js, H' D = some (.lst us) ∧ All2 (JV H') us js ∧ js.map (·.1) = pc.take i ∧ (∀ j ∈ js, (1 ≤ j.2.1 ∧ j.2.1 ≤ 40) ∧ 1 ≤ j.2.2 ∧ j.2.2 ≤ 4) ∧ HpAt H' h q ∧ Kpt h q H H' ∧ H' pl = some (tL (natI pc)))
          ⟨[], [], upd_same, .nil, rfl, fun j hj => (nomatch hj), a4.same sD, kp4.trans (.of_same sD), sD _ _ hpl4⟩ (fun i H' _ h => by obtain ⟨_, _, _, _, _, _, _, _, hp⟩ := h; exact sq_lst hp) ?_ ?_
        · rintro i y H5 hy ⟨us, js, hD, jv, fst, bnd, a5, kp5, hpl5⟩
          obtain ⟨kI, hkI, rfl⟩ := at_map hy
          unfold natI at hkI
          rw [List.getElem?_map] at hkI
          obtain ⟨k0, hk, rfl⟩ := Option.map_eq_some_iff.mp hkI
          have ip : i < pc.length := (List.getElem?_eq_some_iff.mp hk).1
          refine ⟨rfl, _, rfl, _, rfl, _, rfl, h, q, lg, rfl, a5, by omega, by omega, fun d1 H6 d10 d11 a6 kp6 => ?_⟩
          refine ⟨_, _, rfl, rfl, _, rfl, h, q, 4, rfl, a6, by decide, by decide, fun d2 H7 d20 d21 a7 kp7 => ?_⟩
          refine ⟨_, _, rfl, rfl, len3, fun t nt => ?_⟩
          have k8 := same_upd (o := .tup [.int (k0 : Nat), .int (1 + d1), .int (1 + d2)]) nt
          have et : upd H7 t (.tup [.int (k0 : Nat), .int (1 + d1), .int (1 + d2)]) t = some (.tup [.int (k0 : Nat), .int (1 + d1), .int (1 + d2)]) := upd_same
          have hD8 := k8 _ _ (kp7 _ _ (kp6 _ _ hD D1 D2) D1 D2)
          have hpl8 := k8 _ _ (kp7 _ _ (kp6 _ _ hpl5 pl1 pl2) pl1 pl2)
          have a8 := a7.same k8
          have kp8 := ((kp5.trans kp6).trans kp7).trans (.of_same (h := h) (q := q) k8)
          have jv8 := jsTk (((TK.kp kp6 a5).trans (TK.kp kp7 a6)).trans (TK.of k8)) jv
          have nePl : pl ≠ D := fun z => by rw [z, nD] at hpl4; cases hpl4
          have ljs : js.length = i := by have := congrArg List.length fst; rw [List.length_map, List.length_take] at this; omega
          show _
          generalize upd H7 t (.tup [.int (k0 : Nat), .int (1 + d1), .int (1 + d2)]) = H8 at *
          refine ⟨_, hD8, small1000 (by rw [jv.len]; omega), us ++ [.ref t], js ++ [(k0, 1 + d1, 1 + d2)], upd_same, (jsTk (TK.put hD8) jv8).app ⟨t, rfl, (TK.put hD8) _ _ et⟩, by rw [List.map_append, fst, take_one hk]; rfl, fun j hj => ?_, a8.upd D1 D2, kp8.at_new nDH, by rw [upd_ne nePl]; exact hpl8⟩
          rcases List.mem_append.mp hj with z | z
          · exact bnd j z
          · rw [List.mem_singleton.mp z]; exact ⟨⟨by show 1 ≤ 1 + d1; omega, by show 1 + d1 ≤ 40; omega⟩, by show 1 ≤ 1 + d2; omega, by show 1 + d2 ≤ 4; omega⟩
        · rintro H5 ⟨us, js, hD, jv, fst, bnd, a5, kp5, hpl5⟩
          rw [List.length_map, natI_len, List.take_length] at fst
          refine ⟨D, us, rfl, .inl ⟨sq_lst hD, fun t nt => ?_⟩⟩
          have k6 := same_upd (o := .tup us) nt
          exact ⟨t, js, _, _, _, _, _, rfl, a5.same k6, kp5.trans (.of_same k6), ⟨t, us, rfl, upd_same, jsTk (TK.of k6) jv⟩, fst, bnd⟩
      obtain ⟨tj, js, y5, y6, y7, y10, y11, rfl, a5, kp5, jsv, fst, bnd⟩ := hM
      have ljs : js.length = many := by rw [← lnp, ← fst, List.length_map]
      have okr : ∀ z, WOk pt.length (.room js z) := fun z => ⟨fun j hj => rng j.1 (by rw [← fst]; exact List.mem_map.mpr ⟨j, hj, rfl⟩), fun j hj => (bnd j hj).1.1, fun j hj => (bnd j hj).2.1, fun j hj => by have := (bnd j hj).2.2; omega, fun j hj => by have := (bnd j hj).1.2; omega, by show js.length ≤ 20; omega, fun e => by have e : js = [] := e; rw [e] at ljs; simp at ljs; omega⟩
      have hp5 : H5 pp = some (tI pt) := TK.kp kp5 a _ _ hpp
      refine ⟨fun σ H' => ∃ sz, σ = [some (.ref h), some (.ref pp), some (.int (many : Int)), some (.ref pl), some (.ref tj), y5, y6, y7, some (.int lg), some (.int sz), y10, y11] ∧ sz ≤ 90 ∧ HpAt H' h q ∧ Kpt h q H H' ∧ JsV H' (.ref tj) js, ?_, fun σ H6 hM => ?_⟩
      · refine ⟨_, rfl, _, rfl, .ref tj, .ref pp, js, pt, rfl, jsv, ⟨pp, rfl, hp5⟩, (okr 1).pl, by omega, (okr 1).pos pt, (okr 1).some, fun p m M H6 pk s6 hp => ?_⟩
        refine ⟨p, _, 1, _, rfl, rfl, sq_tup hp, rfl, _, rfl, _, rfl, _, rfl, by show 6 ≤ sizeLine; rw [sizeLine_eq]; omega, fun u nu => ?_⟩
        have s7 := same_upd (o := .lst [.int 0, .int 0, .int 0, .int (-1), .int (-1), .int 3]) nu
        have a6 := a5.same s6
        obtain ⟨p1, p2⟩ := a6.fresh nu
        refine ⟨h, q, u, _, rfl, a6.same s7, .inl ⟨upd_same, p1, p2⟩, by simp, by show 6 ≤ 1000; decide, fun v H8 mv a8 kp8 => ?_⟩
        obtain ⟨g, rfl, g9⟩ : ∃ g, v = .int g ∧ g ≤ 3 := by
          simp only [List.mem_cons, List.not_mem_nil, or_false] at mv
          rcases mv with rfl | rfl | rfl | rfl | rfl | rfl <;> exact ⟨_, rfl, by decide⟩
        have xb : ∀ x ∈ sps js pt, x.2.2 ≤ 4 := fun x hx => by
          obtain ⟨j, hj, rfl⟩ := List.mem_map.mp hx
          exact (bnd j hj).2.2
        have mb : M ≤ 4 * (sps js pt).length := by rw [← pk.at_]; exact ld_le (by decide) m _ xb
        have ls : (sps js pt).length = js.length := List.length_map ..
        refine ⟨_, _, rfl, rfl, _, rfl, by omega, a8, ((kp5.trans (.of_same s6)).trans (.of_same s7)).trans kp8, ((jsv.tk (TK.of s6)).tk (TK.of s7)).tk (TK.kp kp8 (a6.same s7))⟩
      obtain ⟨sz, rfl, sz9, a6, kp6, jsv6⟩ := hM
      obtain ⟨tj', us, etj, htj, jv⟩ := jsv6
      cases etj
      have lus := jv.len
      refine ⟨_, rfl, _, rfl, _, rfl, tj, rfl, ⟨_, sq_tup htj⟩, fun D nD => ?_⟩
      have sD := same_upd (o := .lst []) nD
      refine lc_tup (K := K) (a := tj) (xs := us) (fun i H' => H' D = some (tL ((js.take i).map fun j => j.2.2)) ∧ Same H6 H') ⟨upd_same, sD⟩ (fun i H' _ h => sq_tup (h.2 _ _ htj)) ?_ ?_
      · rintro i y H7 hy ⟨hD, sm⟩
        obtain ⟨j, hj, t, rfl, ht⟩ := jv.at_ hy
        have li : i < js.length := (List.getElem?_eq_some_iff.mp hj).1
        refine ⟨rfl, _, rfl, t, _, 2, _, rfl, rfl, sq_tup (sm _ _ ht), rfl, _, hD, by rw [List.length_map, List.length_map, List.length_take]; exact small1000 (by omega), ?_, same_at sm nD⟩
        rw [upd_same, take_one hj, List.map_append]
        show some (HO.lst _) = some (HO.lst (List.map V.int (_ ++ _)))
        rw [List.map_append]; rfl
      · rintro H7 ⟨hD, sm⟩
        rw [lus, List.take_length] at hD
        refine ⟨D, _, rfl, sq_lst hD, by rw [List.length_map]; omega, fun mx hmx hall => ?_⟩
        obtain ⟨j0, hj0, e0⟩ := List.mem_map.mp hmx
        have mx4 : 1 ≤ mx ∧ mx ≤ 4 := by have := bnd j0 hj0; rw [← e0]; exact this.2
        refine ⟨_, _, rfl, len3, fun t nt => ?_⟩
        generalize hzv : (if mx > sz then mx else sz) = zv at *
        have zb : 1 ≤ zv ∧ zv ≤ 100 := by rw [← hzv]; split <;> omega
        have k8 := same_upd (o := .tup [.str "room", .ref tj, .int zv]) nt
        have s8 := sm.trans k8
        exact k _ (.room js zv) _ ⟨t, tj, us, rfl, upd_same, s8 _ _ htj, jsTk (TK.of s8) jv⟩ ⟨okr zv, zb.1, zb.2, fun j hj => by have := (bnd j hj).1.2; omega, fun j hj => (bnd j hj).2.2⟩ (a6.same s8) (kp6.trans (.of_same s8))
end
end M12

namespace M12
open PySem PySem.Spec PyProof.Rows L2 SX Own Gd
open C8 (Cal pe_c pe_gc pe_mk Mak pss_cut)
/-! ### data shown -/
structure Shw (k W : Nat) (d : PyData) : Prop where
  s : d.showable = true
  n : d.hasDict = false
  p : d.depth ≤ k
  l : d.leavesShort 13 = true
  w : d.weight ≤ W
theorem Shw.mono {k W k' W' : Nat} {d : PyData} (h : Shw k W d) (h1 : k ≤ k') (h2 : W ≤ W') : Shw k' W' d := ⟨h.s, h.n, Nat.le_trans h.p h1, h.l, Nat.le_trans h.w h2⟩
theorem Shw.int {c : Int} (h : c.natAbs < 10 ^ 12) : Shw 0 40 (.int c) := by
  have g : c.natAbs.log2 < 40 := PySem.Flt.log2_lt_of (by decide) (Nat.lt_trans h (by decide))
  refine ⟨?_, ?_, ?_, ?_, ?_⟩
  · simp only [PyData.showable]; exact decide_eq_true (by omega)
  · simp only [PyData.hasDict]
  · simp only [PyData.depth]; exact Nat.le_refl _
  · simp only [PyData.leavesShort]; exact decide_eq_true (PyData.shown_int_le h)
  · simp only [PyData.weight]; split <;> omega
theorem Shw.bool (b : Bool) : Shw 0 40 (.bool b) := by
  refine ⟨?_, ?_, ?_, ?_, ?_⟩ <;> simp [PyData.showable, PyData.hasDict, PyData.depth, PyData.leavesShort, PyData.weight]
theorem Shw.none : Shw 0 40 .none := by
  refine ⟨?_, ?_, ?_, ?_, ?_⟩ <;> simp [PyData.showable, PyData.hasDict, PyData.depth, PyData.leavesShort, PyData.weight]
theorem Shw.str {x : Str} (h1 : x.cps.size ≤ 40) (h2 : x.cps.toList.all (fun c => decide (c < 16 ^ 8)) = true) : Shw 0 40 (.str x) := by
  refine ⟨?_, ?_, ?_, ?_, ?_⟩
  · simp only [PyData.showable]
  · simp only [PyData.hasDict]
  · simp only [PyData.depth]; exact Nat.le_refl _
  · simp only [PyData.leavesShort]; exact h2
  · simp only [PyData.weight]; exact h1
theorem shwAll {k W : Nat} : ∀ {ds : List PyData}, (∀ d ∈ ds, Shw k W d) → PyData.showableAll ds = true ∧ PyData.hasDictAll ds = false ∧ PyData.depthAll ds ≤ k ∧ PyData.leavesShortAll 13 ds = true ∧ PyData.weightAll ds ≤ (W + 1) * ds.length
  | [], _ => by simp [PyData.showableAll, PyData.hasDictAll, PyData.depthAll, PyData.leavesShortAll, PyData.weightAll]
  | d :: ds, h => by
    obtain ⟨h1, h2, h3, h4, h5⟩ := shwAll (ds := ds) fun x hx => h x (List.mem_cons_of_mem _ hx)
    obtain ⟨g1, g2, g3, g4, g5⟩ := h d (List.mem_cons_self ..)
    refine ⟨?_, ?_, ?_, ?_, ?_⟩
    · simp only [PyData.showableAll, g1, h1, Bool.and_true]
    · simp only [PyData.hasDictAll, g2, h2, Bool.or_false]
    · simp only [PyData.depthAll]; omega
    · simp only [PyData.leavesShortAll, g4, h4, Bool.and_true]
    · simp only [PyData.weightAll, List.length_cons, Nat.mul_add]; omega
theorem Shw.tup {k W n : Nat} {ds : List PyData} (h : ∀ d ∈ ds, Shw k W d) (l : ds.length ≤ n) : Shw (k + 1) ((W + 1) * n) (.tuple ds) := by
  obtain ⟨h1, h2, h3, h4, h5⟩ := shwAll h
  refine ⟨?_, ?_, ?_, ?_, ?_⟩
  · simp only [PyData.showable, h1]
  · simp only [PyData.hasDict, h2]
  · simp only [PyData.depth]; omega
  · simp only [PyData.leavesShort, h4]
  · simp only [PyData.weight]
    exact Nat.le_trans h5 (Nat.mul_le_mul_left _ l)
/-- repr of a tuple, a number or None -/
def rShowX (K : PySem.W.Frag) : List V → Hp → VK → Prop := fun xs H Q => ∃ v d, xs = [v] ∧ Dp K H v d ∧ Shw 60 1000000 d ∧ ((∃ a, v = .ref a) ∨ v = .non ∨ ∃ i, v = .int i) ∧ Q (.str d.shown) H
theorem call_showX {X : Cx} (hgd : X.A.guards = some []) (hu : X.A.units + 64 < cLine) : CallR X (.builtin "repr") (rShowX X.K) := by
  intro pins s σ H xs us Q I r h
  obtain ⟨v, d, rfl, dp, sh, hv, q⟩ := h
  rcases hv with ⟨a, rfl⟩ | rfl | ⟨i, rfl⟩
  · exact call_show hgd hu pins s σ H _ us Q I r ⟨a, d, rfl, dp, sh.s, sh.n, sh.p, PyData.shown_fits (B := 13) (by decide) (by decide) sh.l (Nat.le_trans sh.w (by decide)), q⟩
  · cases dp
    obtain ⟨u, rfl, r1⟩ := vals1 r
    cases (show u = Value.none from r1)
    exact PySem.P.repr_of_none ⟨.str "None", H, I.tok _, ⟨_, rfl⟩, q⟩
  · cases dp
    obtain ⟨u, rfl, t, rfl⟩ := vals1 r
    have := sh.s
    simp only [PyData.showable] at this
    exact PySem.P.repr_of_int (of_decide_eq_true this) ⟨.str _, H, I.tok _, ⟨_, rfl⟩, q⟩
def dI (a : List Int) : PyData := .tuple (a.map PyData.int)
theorem dpAllI {K : PySem.W.Frag} {H : Hp} : ∀ a : List Int, DpAll K H (a.map V.int) (a.map PyData.int)
  | [] => .nil
  | c :: a => .cons (.int c) (dpAllI a)
theorem dpI {K : PySem.W.Frag} {H : Hp} {v : V} {a : List Int} (h : LV H v a) : Dp K H v (dI a) := by
  obtain ⟨q, rfl, e⟩ := h
  exact .tup (sq_tup e) (dpAllI a)
theorem layI : ∀ a : List Int, PyData.canLayAll0 (a.map PyData.int) = true
  | [] => by simp [PyData.canLayAll0]
  | c :: a => by simp [PyData.canLayAll0, PyData.canLay0, layI a]
theorem depI : ∀ a : List Int, PyData.depthAll (a.map PyData.int) ≤ 1
  | [] => by simp [PyData.depthAll]
  | c :: a => by
    have := depI a
    simp only [List.map_cons, PyData.depthAll, PyData.depth]; omega
theorem shpI (a : List Int) : SeqAt.shaped (dI a) = true := by
  have := depI a
  unfold SeqAt.shaped dI
  rw [Bool.and_eq_true]
  refine ⟨by simp only [PyData.canLay0]; exact layI a, decide_eq_true ?_⟩
  simp only [PyData.depth]; omega
theorem eqvAllI : ∀ a b : List Int, PyData.eqvAll (a.map PyData.int) (b.map PyData.int) = decide (a = b)
  | [], [] => by simp [PyData.eqvAll]
  | [], _ :: _ => by simp [PyData.eqvAll]
  | _ :: _, [] => by simp [PyData.eqvAll]
  | c :: a, d :: b => by
    simp only [List.map_cons, PyData.eqvAll, PyData.eqv, eqvAllI a b]
    by_cases h : c = d <;> by_cases h2 : a = b <;> simp [h, h2]
theorem eqvI (a b : List Int) : PyData.eqv (dI a) (dI b) = decide (a = b) := by
  unfold dI
  simp only [PyData.eqv, eqvAllI]
def Sh12 (c : Int) : Prop := c.natAbs < 10 ^ 12
theorem shI {a : List Int} (h : ∀ c ∈ a, Sh12 c) (l : a.length ≤ 2000) : Shw 60 1000000 (dI a) :=
  (Shw.tup (W := 40) (n := 2000) (fun d hd => by
    obtain ⟨c, hc, rfl⟩ := List.mem_map.mp hd
    exact Shw.int (h c hc)) (by rw [List.length_map]; exact l)).mono (by decide) (by decide)
theorem p2LV {H : Hp} {v : V} {a : Int × Int} (h : P2 H v a) : LV H v [a.1, a.2] := h
/-- repr of the same tuple of integers, of the same integer -/
theorem ld_sh {l : List Sn} (p : Pos l) {c : Int} (hc : 0 ≤ c) (h : ∀ x ∈ l, x.2.2 ≤ c) (z : c * l.length < 1000000000000) (m : Int) : Sh12 (ld l m) := by
  have h1 := ld_nn p m
  have h2 := ld_le hc m l h
  unfold Sh12
  omega
theorem WB.d4 {far : Int} {pt : List Int} {x : Wh} (b : WB far pt x) : ∀ y ∈ sps x.jobs pt, y.2.2 ≤ 4 := fun y hy => by
  obtain ⟨j, hj, rfl⟩ := List.mem_map.mp hy
  exact b.nd j hj
theorem sps_len (js : List Jb) (pt : List Int) : (sps js pt).length = js.length := List.length_map _
theorem WB.lsh {far : Int} {pt : List Int} {x : Wh} (b : WB far pt x) (m : Int) : Sh12 (ld (sps x.jobs pt) m) := by
  have := b.ok.few
  exact ld_sh (b.ok.pos pt) (by decide) b.d4 (by rw [sps_len]; omega) m
theorem pk_chg {l : List Sn} (p : Pos l) (ne : l ≠ []) {m M : Int} (h : Pk l m M) : ∃ x ∈ l, x.1 = m ∨ x.2.1 = m := by
  refine mem_change (l := l) (m := m) fun z => ?_
  have h1 := ld_step p m
  rw [z, h.at_] at h1
  have h2 := h.fst (m - 1) (by omega)
  omega
section
variable {P : Program} {w : World} {K : PySem.W.Frag} {mg : Str → Option Value} {base : Heap} {aT : Addr} {es : Array DictEntry} {nn : Nat}
abbrev s_Lpeak_right : Stmt := topS 41
abbrev n_Lpeak_right : List Str := ["wish", "point", "due"]
theorem sc_Lpeak_right : FnScope n_Lpeak_right ["wish", "point"] (defScope s_Lpeak_right) := ⟨rfl, rfl, rfl, by decide +kernel, rfl, by decide +kernel, by decide +kernel⟩
def FarOk (far : Int) : Prop := far.natAbs ≤ 1000000
theorem pk_sh {far : Int} {pt : List Int} {x : Wh} (b : WB far pt x) (pb : PB far pt) (fo : FarOk far) {m M : Int} (h : Pk (sps x.jobs pt) m M) : ∀ c ∈ [m, M], Sh12 c := by
  intro c hc
  simp only [List.mem_cons, List.not_mem_nil, or_false] at hc
  rcases hc with rfl | rfl
  · obtain ⟨y, hy, e⟩ := pk_chg (b.ok.pos pt) (b.ok.ne pt) h
    obtain ⟨j, hj, rfl⟩ := List.mem_map.mp hy
    have h1 := pb.at_ (b.ok.pl j hj)
    have h2 := b.ln j hj
    have h3 := b.ok.ln j hj
    unfold FarOk at fo
    unfold Sh12
    rcases e with e | e
    · have e : pt.getD j.1 0 = c := e
      omega
    · have e : pt.getD j.1 0 + j.2.1 = c := e
      omega
  · rw [← h.at_]; exact b.lsh m
def spPeakR : Sp := fun vs H Q _ => ∃ (v v2 : V) (x : Wh) (pt : List Int) (far : Int), vs = [v, v2] ∧ WhV H v x ∧ LV H v2 pt ∧ WB far pt x ∧ PB far pt ∧ FarOk far ∧ ∀ H', Same H H' → Q (.bl true) H'
theorem ok_Lpeak_right {f : Addr} {fd : FuncData} (F : Fun K "_law_peak_right" "_law_peak_right" s_Lpeak_right f fd) (T : Txt K mg w aT es nn) (c_Ljobs : Cal P w K mg base 1 "_law_jobs" spJobsOf []) (c_Lmost : Cal P w K mg base 3 "_law_most" spMost []) (c_peak : Cal P w K mg base 3 "peak" spPeak []) (k_peak_point_wish : CalK P w K mg base 3 "peak" ["point", "wish"] List.reverse spPeak) : FnG P w K mg base CX0 5 f fd ["wish", "point"] spPeakR := by
  refine fun_okG F sc_Lpeak_right (fun vs H Q E h => ?_) (fun cdv A outer s H vs Q E hgd hr h => ?_)
  · obtain ⟨v, v2, x, pt, far, rfl, _⟩ := h
    rfl
  · obtain ⟨v, v2, x, pt, far, rfl, hv, hpt, wb, pb, fo, q⟩ := h
    refine ⟨_, (pss_cons (ps_set (i := 2) sc_Lpeak_right.nd rfl (.inl rfl) (pe_c c_Lmost hr (by decide) (by rfl) (pa_cons (pe_c c_Ljobs hr (by decide) (by rfl) (pa_cons (pv 0) pa_nil)) (pa_cons (pv 1) pa_nil))))
      (pss_one (ps_ret (pe_and (pe_cmpR op_eq (pe_callB (call_showX hgd hr.units) (by rfl) T.b_repr (by decide +kernel) (pa_cons (pe_c c_peak hr (by decide) (by rfl) (pa_cons (pv 0) (pa_cons (pv 1) pa_nil))) pa_nil)) (pe_callB (call_showX hgd hr.units) (by rfl) T.b_repr (by decide +kernel) (pa_cons (pv 2) pa_nil)) (nomark _)) (pe_one (pe_cmpR (op_eqD hr.units) (pe_kw k_peak_point_wish hr (by decide) (by rfl) (pk_cons (pv 1) (pk_cons (pv 0) pk_nil))) (pv 2) (nomark _))))))), ?_⟩
    have few := wb.ok.few
    refine ⟨_, rfl, v, x, rfl, hv, by omega, fun pj us H1 s1 hpj lv => ?_⟩
    refine ⟨_, rfl, .ref pj, v2, x.jobs, pt, rfl, ⟨pj, us, rfl, hpj, lv⟩, hpt.same s1, wb.ok.pl, few, wb.ok.pos pt, wb.ok.some, fun p m M H2 pk s2 hp => ?_⟩
    have s02 := s1.trans s2
    have sh := shI (pk_sh wb pb fo pk) (by show 2 ≤ 2000; decide)
    refine ⟨_, rfl, _, rfl, v, v2, x, pt, rfl, hv.tk (TK.of s02), hpt.same s02, wb.ok, fun p3 m3 M3 H3 pk3 s3 hp3 => ?_⟩
    obtain ⟨rfl, rfl⟩ := pk.one pk3
    have s03 := s02.trans s3
    have hp2 := s3 _ _ hp
    refine ⟨_, _, rfl, dpI (p2LV (a := (m, M)) ⟨p3, rfl, hp3⟩), sh, .inl ⟨_, rfl⟩, _, rfl, _, _, rfl, dpI (p2LV (a := (m, M)) ⟨p, rfl, hp2⟩), sh, .inl ⟨_, rfl⟩, rfl, ?_⟩
    refine ⟨_, rfl, iteT' (by simp) ?_⟩
    refine ⟨_, rfl, _, rfl, v, v2, x, pt, rfl, hv.tk (TK.of s03), hpt.same s03, wb.ok, fun p4 m4 M4 H4 pk4 s4 hp4 => ?_⟩
    obtain ⟨rfl, rfl⟩ := pk.one pk4
    refine ⟨_, rfl, _, _, dpI (p2LV (a := (m, M)) ⟨p4, rfl, hp4⟩), dpI (p2LV (a := (m, M)) ⟨p, rfl, s4 _ _ hp2⟩), shpI _, shpI _, ?_⟩
    rw [SeqAt.eqv_refl _ (SeqAt.canLay_of_shaped (shpI _))]
    exact q _ (s03.trans s4)
abbrev s_Lrunning_right : Stmt := topS 39
abbrev n_Lrunning_right : List Str := ["wish", "point", "jobs", "size", "heavy", "moment", "due", "need", "kept", "at"]
theorem sc_Lrunning_right : FnScope n_Lrunning_right ["wish", "point"] (defScope s_Lrunning_right) := ⟨rfl, rfl, rfl, by decide +kernel, rfl, by decide +kernel, by decide +kernel⟩
theorem ok_Lrunning_right {f : Addr} {fd : FuncData} (F : Fun K "_law_running_right" "_law_running_right" s_Lrunning_right f fd) (T : Txt K mg w aT es nn) (c_Ljobs : Cal P w K mg base 1 "_law_jobs" spJobsOf []) (c_Lsize : Cal P w K mg base 1 "_law_size" spSize []) (c_Lmoments : Cal P w K mg base 2 "_law_moments" spMoments []) (c_Lruns : Cal P w K mg base 1 "_law_runs" spRuns []) (c_Lneeds : Cal P w K mg base 2 "_law_needs" spNeeds []) (c_running : Cal P w K mg base 3 "running" spRunning []) (c_load_between : Cal P w K mg base 3 "load_between" spLoad []) (c_keeps_wish : Cal P w K mg base 4 "keeps_wish" spKeeps []) (c_peak : Cal P w K mg base 3 "peak" spPeak []) (k_running_moment_point_wish : CalK P w K mg base 3 "running" ["moment", "point", "wish"] List.reverse spRunning) : FnG P w K mg base CX0 6 f fd ["wish", "point"] spPeakR := by
  refine fun_okG F sc_Lrunning_right (fun vs H Q E h => ?_) (fun cdv A outer s H vs Q E hgd hr h => ?_)
  · obtain ⟨v, v2, x, pt, far, rfl, _⟩ := h
    rfl
  · obtain ⟨v, v2, x, pt, far, rfl, hv, hpt, wb, pb, fo, q⟩ := h
    refine ⟨_, (pss_cons (ps_asg (pe_tup (pa_cons (pe_c c_Ljobs hr (by decide) (by rfl) (pa_cons (pv 0) pa_nil)) (pa_cons (pe_c c_Lsize hr (by decide) (by rfl) (pa_cons (pv 0) pa_nil)) (pa_cons pe_int pa_nil)))) (pg_tup rfl (pgs_cons (pg_name (i := 2) sc_Lrunning_right.nd rfl (.inr rfl)) (pgs_cons (pg_name (i := 3) sc_Lrunning_right.nd rfl (.inl rfl)) (pgs_cons (pg_name (i := 4) sc_Lrunning_right.nd rfl (.inl rfl)) pgs_nil)))))
      (pss_cut (ps_for PassesOwn.never rfl (pi_list (pe_c c_Lmoments hr (by decide) (by rfl) (pa_cons (pv 2) (pa_cons (pv 1) pa_nil)))) (pg_name (i := 5) sc_Lrunning_right.nd rfl (.inr rfl)) (pss_cut (ps_set (i := 6) sc_Lrunning_right.nd rfl (.inl rfl) (pe_callTy call_tuple_of (by rfl) T.b_tuple (by decide +kernel) (pa_cons (pe_lc (own := [("at", 9)]) rfl sc_Lrunning_right.nd (pi_range1 (by rfl) T.b_range (pa_cons (pe_callB call_len_seq (by rfl) T.b_len (by decide +kernel) (pa_cons (pv 2) pa_nil)) pa_nil)) (blkOk_by (N := n_Lrunning_right) (sc := defScope s_Lrunning_right) (by decide +kernel)) (fun _ _ _ _ _ => (pg_name (i := 9) sc_Lrunning_right.nd rfl (.inl rfl))) (fun _ _ _ _ _ => (pts_one (pt_val (pe_c c_Lruns hr (by decide) (by rfl) (pa_cons (pe_ix (r := rIxT K) ix_tup (pv 2) (pv 9) (fun _ _ => rfl)) (pa_cons (pv 1) (pa_cons (pv 5) pa_nil))))))) (fun _ _ _ _ _ => (pv 9))) pa_nil)))
        (pss_cons (ps_if (PW.pt (pw_or (pt_cmpR op_ne (pe_callB (call_showX hgd hr.units) (by rfl) T.b_repr (by decide +kernel) (pa_cons (pe_c c_running hr (by decide) (by rfl) (pa_cons (pv 0) (pa_cons (pv 1) (pa_cons (pv 5) pa_nil)))) pa_nil)) (pe_callB (call_showX hgd hr.units) (by rfl) T.b_repr (by decide +kernel) (pa_cons (pv 6) pa_nil)) (nomark _)) (pw_or1 (pt_cmpR (op_neD hr.units) (pe_kw k_running_moment_point_wish hr (by decide) (by rfl) (pk_cons (pv 5) (pk_cons (pv 1) (pk_cons (pv 0) pk_nil)))) (pv 6) (nomark _))))) (pss_one (ps_ret pe_bl)) pss_nil)
        (pss_cons (ps_set (i := 7) sc_Lrunning_right.nd rfl (.inl rfl) (pe_c c_Lneeds hr (by decide) (by rfl) (pa_cons (pv 2) (pa_cons (pv 1) (pa_cons (pv 5) pa_nil)))))
        (pss_cons (ps_if (pt_cmpR op_ne (pe_callB (call_showX hgd hr.units) (by rfl) T.b_repr (by decide +kernel) (pa_cons (pe_c c_load_between hr (by decide) (by rfl) (pa_cons (pv 0) (pa_cons (pv 1) (pa_cons (pv 5) (pa_cons (pe_op op_add (pv 5) pe_int) pa_nil))))) pa_nil)) (pe_callB (call_showX hgd hr.units) (by rfl) T.b_repr (by decide +kernel) (pa_cons (pv 7) pa_nil)) (nomark _)) (pss_one (ps_ret pe_bl)) pss_nil)
        (pss_one (ps_aug (i := 4) sc_Lrunning_right.nd rfl (.inl rfl) (pe_callTy call_int1 (by rfl) T.b_int (by decide +kernel) (pa_cons (pe_cmpR op_gt (pv 7) (pv 3) (nomark _)) pa_nil)) ip_add)))))))
      (pss_cons (ps_set (i := 8) sc_Lrunning_right.nd rfl (.inl rfl) (pe_cmpR op_eq (pv 4) pe_int (nomark _)))
      (pss_one (ps_ret (pe_and (pe_cmpR op_eq (pe_c c_keeps_wish hr (by decide) (by rfl) (pa_cons (pv 0) (pa_cons (pv 1) pa_nil))) (pv 8) (nomark _)) (pe_one (pe_cmpR op_eq (pe_cmpR op_le (pe_ix ix_tup (pe_c c_peak hr (by decide) (by rfl) (pa_cons (pv 0) (pa_cons (pv 1) pa_nil))) pe_int (fun _ _ => rfl)) (pv 3) (nomark _)) (pv 8) (nomark _))))))))), ?_⟩
    have few := wb.ok.few
    refine ⟨_, rfl, v, x, rfl, hv, by omega, fun pj us H1 s1 hpj lv => ?_⟩
    refine ⟨_, rfl, v, x, rfl, hv.tk (TK.of s1), ?_⟩
    refine ⟨len3, fun t nt => ?_⟩
    have s2 := same_upd (o := .tup [.ref pj, .int x.size, .int 0]) nt
    refine ⟨t, _, rfl, sq_tup upd_same, rfl, _, _, rfl, _, _, rfl, _, _, rfl, rfl, ?_⟩
    have s02 := s1.trans s2
    have hpj2 := s2 _ _ hpj
    have lv2 := jsTk (TK.of s2) lv
    generalize upd H1 t (.tup [.ref pj, .int x.size, .int 0]) = H2 at *
    have lus := lv2.len
    have hv2 := hv.tk (TK.of s02)
    have hpt2 := hpt.same s02
    have pos := wb.ok.pos pt
    have nz : 0 ≤ x.size := by have := wb.z1; omega
    refine ⟨fun σ H' => ∃ y5 y6 y7 y9 c, σ = [some v, some v2, some (.ref pj), some (.int x.size), some (.int c), y5, y6, y7, none, y9] ∧ (decide (c = 0) = true ↔ ∀ m, ld (sps x.jobs pt) m ≤ x.size) ∧ Same H2 H', ?_, fun σ H3 hM => ?_⟩
    · refine ⟨_, rfl, _, rfl, .ref pj, v2, x.jobs, pt, rfl, ⟨pj, us, rfl, hpj2, lv2⟩, hpt2, wb.ok.pl, few, fun p ms H3 s3 np hp inc cov lms => ?_⟩
      refine ⟨p, rfl, ⟨_, sq_lst hp⟩, for_list (K := K) (a := p) (xs := ms.map V.int) (fun i σ H' => ∃ y5 y6 y7 y9 c, σ = [some v, some v2, some (.ref pj), some (.int x.size), some (.int c), y5, y6, y7, none, y9] ∧ 0 ≤ c ∧ (c = 0 ↔ ∀ m ∈ ms.take i, ld (sps x.jobs pt) m ≤ x.size) ∧ Same H3 H')
        ⟨none, none, none, none, 0, rfl, Int.le_refl _, ⟨fun _ m hm => (nomatch hm), fun _ => rfl⟩, Same.refl _⟩ (fun i σ H' _ h => by obtain ⟨_, _, _, _, _, _, _, _, sm⟩ := h; exact sq_lst (sm _ _ hp)) ?_ ?_⟩
      · rintro i y σ H4 hy ⟨y5, y6, y7, y9, c, rfl, c0, ci, sm⟩
        obtain ⟨m, hm, rfl⟩ := at_map hy
        have s34 := s3.trans sm
        have hpj4 := s34 _ _ hpj2
        have lv4 := jsTk (TK.of s34) lv2
        have hv4 := hv2.tk (TK.of s34)
        have hpt4 := hpt2.same s34
        refine ⟨fun σ H' => ∃ y9 td, σ = [some v, some v2, some (.ref pj), some (.int x.size), some (.int c), some (.int m), some (.ref td), y7, none, y9] ∧ H' td = some (tI (rnF (sps x.jobs pt) m x.jobs.length)) ∧ Same H4 H', ?_, fun σ H5 hM => ?_⟩
        · refine ⟨_, rfl, pj, _, rfl, .inr (sq_tup hpj4), _, rfl, by omega, by omega, fun D nD => ?_⟩
          refine lc_range (lo := 0) (n := ((us.length : Nat) : Int).toNat) (fun i H' => H' D = some (.lst ((rnF (sps x.jobs pt) m i).map V.int)) ∧ Same H4 H') ⟨upd_same, same_upd nD⟩ (fun i H5 hi hI => ?_) (fun H5 hI => ?_)
          · obtain ⟨hD, sm5⟩ := hI
            rw [Int.toNat_natCast] at hi
            rw [show ((0 : Int) + (i : Nat)) = (i : Int) by omega]
            obtain ⟨j, hj, hjv⟩ := lv4.at_ (List.getElem?_eq_getElem hi)
            have hs : (sps x.jobs pt)[i]? = some (pt.getD j.1 0, pt.getD j.1 0 + j.2.1, j.2.2) := by unfold sps; rw [List.getElem?_map, hj]; rfl
            have li := rnF_len (sps x.jobs pt) m i
            refine ⟨rfl, _, rfl, _, rfl, pj, us, (i : Int), us[i], rfl, rfl, sq_tup (sm5 _ _ hpj4), atI_nat (List.getElem?_eq_getElem hi), _, rfl, _, rfl, us[i], v2, j, pt, m, rfl, T3.tk hjv (TK.of sm5), hpt4.same sm5, wb.ok.pl j (List.mem_of_getElem? hj), fun b hb => ⟨b, rfl, ?_⟩⟩
            subst hb
            refine ite2 (fun h1 => ?_) (fun h1 => ?_)
            · refine ⟨_, rfl, _, hD, by rw [List.length_map]; exact small1000 (by omega), ?_, same_at sm5 nD⟩
              rw [upd_same, rnF_one hs, if_pos (of_decide_eq_true h1), List.map_append]; rfl
            · refine ⟨?_, sm5⟩
              rw [hD, rnF_one hs, if_neg (fun z => h1 (decide_eq_true z)), List.append_nil]
          · obtain ⟨hD, sm5⟩ := hI
            rw [Int.toNat_natCast, lus] at hD
            refine ⟨D, _, rfl, .inl ⟨sq_lst hD, fun t nt => ?_⟩⟩
            exact ⟨_, t, rfl, upd_same, sm5.trans (same_upd nt)⟩
        obtain ⟨y9, td, rfl, htd, sm5⟩ := hM
        have s25 := s34.trans sm5
        have hv5 := hv4.tk (TK.of sm5)
        have hpt5 := hpt4.same sm5
        have shr : Shw 60 1000000 (dI (rnF (sps x.jobs pt) m x.jobs.length)) := by
          have l1 := rnF_len (sps x.jobs pt) m x.jobs.length
          refine shI (fun c hc => ?_) (by omega)
          unfold rnF natI at hc
          obtain ⟨k, hk, rfl⟩ := List.mem_map.mp hc
          have := List.mem_range.mp (List.mem_filter.mp hk).1
          unfold Sh12
          omega
        refine ⟨_, rfl, _, rfl, _, rfl, v, v2, x, pt, m, rfl, hv5, hpt5, wb.ok, fun p6 H6 s6 hp6 => ?_⟩
        have htd6 := s6 _ _ htd
        refine ⟨_, _, rfl, dpI ⟨p6, rfl, hp6⟩, shr, .inl ⟨_, rfl⟩, _, rfl, _, _, rfl, dpI ⟨td, rfl, htd6⟩, shr, .inl ⟨_, rfl⟩, rfl, _, rfl, ite2 (fun z => by simp at z) (fun _ => ?_)⟩
        have s26 := s25.trans s6
        refine ⟨_, rfl, _, rfl, _, rfl, v, v2, x, pt, m, rfl, hv2.tk (TK.of s26), hpt2.same s26, wb.ok, fun p7 H7 s7 hp7 => ?_⟩
        have htd7 := s7 _ _ htd6
        refine ⟨_, rfl, _, _, dpI ⟨p7, rfl, hp7⟩, dpI ⟨td, rfl, htd7⟩, shpI _, shpI _, _, rfl, ?_⟩
        rw [SeqAt.eqv_refl _ (SeqAt.canLay_of_shaped (shpI _))]
        refine iteF' (by decide) ?_
        have s27 := s26.trans s7
        refine ⟨_, rfl, _, rfl, _, rfl, .ref pj, v2, x.jobs, pt, m, rfl, ⟨pj, us, rfl, s27 _ _ hpj2, jsTk (TK.of s27) lv2⟩, hpt2.same s27, wb.ok.pl, few, fun H8 s8 => ?_⟩
        have s28 := s27.trans s8
        have e1 : lb (sps x.jobs pt) m (m + 1) = ld (sps x.jobs pt) m := by
          have h1 := lb_step pos (f := m) (t := m) (Int.le_refl _)
          rw [lb_nil pos (Int.le_refl _)] at h1
          omega
        have shd := Shw.int (wb.lsh m)
        refine ⟨_, rfl, _, rfl, _, rfl, _, rfl, _, _, rfl, rfl, v, v2, x, pt, m, m + 1, rfl, hv2.tk (TK.of s28), hpt2.same s28, wb.ok, fun H9 s9 => ?_⟩
        rw [e1]
        refine ⟨_, _, rfl, .int _, shd.mono (by decide) (by decide), .inr (.inr ⟨_, rfl⟩), _, rfl, _, _, rfl, .int _, shd.mono (by decide) (by decide), .inr (.inr ⟨_, rfl⟩), rfl, _, rfl, ite2 (fun z => by simp at z) (fun _ => ?_)⟩
        have smF : Same H3 H9 := (((sm.trans sm5).trans s6).trans s7).trans (s8.trans s9)
        refine ⟨_, rfl, _, rfl, _, rfl, _, _, rfl, rfl, .inr ⟨_, rfl, _, _, rfl, rfl, some (.int m), some (.ref td), some (.int (ld (sps x.jobs pt) m)), y9, c + (if decide (x.size < ld (sps x.jobs pt) m) = true then 1 else 0), rfl, ?_, ?_, smF⟩⟩
        · split <;> omega
        · rw [take_one hm]
          constructor
          · intro h y hy
            have hs : ¬ (x.size < ld (sps x.jobs pt) m) := fun z => by rw [if_pos (decide_eq_true z)] at h; omega
            rw [if_neg (by simpa using hs)] at h
            rcases List.mem_append.mp hy with z | z
            · exact ci.mp (by omega) y z
            · rw [List.mem_singleton.mp z]; omega
          · intro h
            have h1 := h m (by simp)
            rw [if_neg (by simp; omega)]
            have := ci.mpr fun y hy => h y (List.mem_append_left _ hy)
            omega
      · rintro σ H4 ⟨y5, y6, y7, y9, c, rfl, c0, ci, sm⟩
        rw [List.length_map, List.take_length] at ci
        refine ⟨_, _, _, _, c, rfl, ?_, s3.trans sm⟩
        rw [decide_eq_true_eq, ci]
        exact all_le pos nz fun m hm => by
          obtain ⟨y, hy, z⟩ := mem_change hm
          rcases z with z | z
          · rw [← z]; exact (cov y hy).1
          · rw [← z]; exact (cov y hy).2
    obtain ⟨y5, y6, y7, y9, c, rfl, ci, s3⟩ := hM
    have s03 := s02.trans s3
    refine ⟨_, rfl, rfl, ?_⟩
    have ek : (V.int c = V.int 0) ↔ ∀ m, ld (sps x.jobs pt) m ≤ x.size := by
      rw [← ci, decide_eq_true_eq]
      exact ⟨fun z => by cases z; rfl, fun z => by rw [z]⟩
    refine ⟨_, rfl, _, rfl, v, v2, x, pt, rfl, hv.tk (TK.of s03), hpt.same s03, wb.ok, nz, fun b H4 hb s4 => ?_⟩
    have eb : b = decide (V.int c = V.int 0) := by
      rw [Bool.eq_iff_iff, hb, decide_eq_true_eq, ek]
    have s04 := s03.trans s4
    refine ⟨_, rfl, rfl, _, rfl, iteT' (by rw [eb]; simp) ?_⟩
    refine ⟨_, rfl, _, rfl, v, v2, x, pt, rfl, hv.tk (TK.of s04), hpt.same s04, wb.ok, fun p m M H5 pk s5 hp => ?_⟩
    refine ⟨p, _, 1, _, rfl, rfl, sq_tup hp, rfl, _, rfl, _, _, rfl, rfl, _, rfl, rfl, ?_⟩
    have e2 : (V.bl (decide (M ≤ x.size)) = V.bl (decide (V.int c = V.int 0))) := by
      congr 1
      rw [decide_eq_decide, ek]
      exact ⟨fun z y => by have := pk.all y; omega, fun z => by rw [← pk.at_]; exact z m⟩
    rw [show (fun i j : Int => V.bl (decide (i ≤ j))) M x.size = V.bl (decide (M ≤ x.size)) from rfl, e2, decide_eq_true rfl]
    exact q _ (s04.trans s5)
end
end M12

namespace M12
open PySem PySem.Spec PyProof.Rows L2 SX Own Gd
open C8 (Cal pe_c pe_gc pe_mk Mak pss_cut)
theorem lb_nn {l : List Sn} (p : Pos l) (f : Int) : ∀ n : Nat, 0 ≤ lb l f (f + n)
  | 0 => by rw [lb_nil p (by omega)]; exact Int.le_refl _
  | n + 1 => by
    have h := lb_step p (f := f) (t := f + n) (by omega)
    have h1 := lb_nn p f n
    have h2 := ld_nn p (f + n)
    have e : f + ((n + 1 : Nat) : Int) = f + n + 1 := by omega
    rw [e, h]; omega
theorem whole_app (x : Sn) : ∀ l : List Sn, whole (l ++ [x]) = whole l + (x.2.1 - x.1) * x.2.2
  | [] => by simp [whole]
  | (s, e, d) :: r => by
    rw [List.cons_append, whole, whole, whole_app x r]; omega
theorem pow5 : (10 : Int) ^ 5 = 100000 := by decide
section
variable {P : Program} {w : World} {K : PySem.W.Frag} {mg : Str → Option Value} {base : Heap} {aT : Addr} {es : Array DictEntry} {nn : Nat}
abbrev s_Lloads_right : Stmt := topS 40
abbrev n_Lloads_right : List Str := ["heap", "wish", "point", "jobs", "base", "turn", "first", "last", "due", "whole", "job", "moment"]
theorem sc_Lloads_right : FnScope n_Lloads_right ["heap", "wish", "point"] (defScope s_Lloads_right) := ⟨rfl, rfl, rfl, by decide +kernel, rfl, by decide +kernel, by decide +kernel⟩
def spLoadsR : Sp := fun vs H Q _ => ∃ (h q : Addr) (v v2 : V) (x : Wh) (pt : List Int) (far : Int), vs = [.ref h, v, v2] ∧ HpAt H h q ∧ WhV H v x ∧ LV H v2 pt ∧ WB far pt x ∧ PB far pt ∧ FarOk far ∧ ∀ H', HpAt H' h q → Kpt h q H H' → Q (.bl true) H'
theorem ok_Lloads_right {f : Addr} {fd : FuncData} (F : Fun K "_law_loads_right" "_law_loads_right" s_Lloads_right f fd) (T : Txt K mg w aT es nn) (c_Ldraw : Cal P w K mg base 1 "_law_draw" spDraw []) (c_Lpick : Cal P w K mg base 2 "_law_pick" spPick []) (c_Ljobs : Cal P w K mg base 1 "_law_jobs" spJobsOf []) (c_Lsize : Cal P w K mg base 1 "_law_size" spSize []) (c_Lneeds : Cal P w K mg base 2 "_law_needs" spNeeds []) (c_load_between : Cal P w K mg base 3 "load_between" spLoad []) (c_keeps_wish : Cal P w K mg base 4 "keeps_wish" spKeeps []) (k_load_between_last_first_point_wish : CalK P w K mg base 3 "load_between" ["last", "first", "point", "wish"] List.reverse spLoad) : FnG P w K mg base CX0 6 f fd ["heap", "wish", "point"] spLoadsR := by
  refine fun_okG F sc_Lloads_right (fun vs H Q E h => ?_) (fun cdv A outer s H vs Q E hgd hr h => ?_)
  · obtain ⟨h, q, v, v2, x, pt, far, rfl, _⟩ := h
    rfl
  · obtain ⟨h, q, v, v2, x, pt, far, rfl, a, hv, hpt, wb, pb, fo, k⟩ := h
    refine ⟨_, (pss_cons (ps_set (i := 3) sc_Lloads_right.nd rfl (.inr rfl) (pe_c c_Ljobs hr (by decide) (by rfl) (pa_cons (pv 1) pa_nil)))
      (pss_cons (ps_set (i := 4) sc_Lloads_right.nd rfl (.inl rfl) (pe_ix ix_tup (pv 2) (pe_ix ix_tup (pe_c c_Lpick hr (by decide) (by rfl) (pa_cons (pv 0) (pa_cons (pv 3) pa_nil))) pe_int (fun _ _ => rfl)) (fun _ _ => rfl)))
      (pss_cut (ps_for PassesOwn.never rfl (pi_range1 (by rfl) T.b_range (pa_cons pe_int pa_nil)) (pg_name (i := 5) sc_Lloads_right.nd rfl (.inl rfl)) (pss_cons (ps_set (i := 6) sc_Lloads_right.nd rfl (.inl rfl) (pe_op op_sub (pv 4) (pe_c c_Ldraw hr (by decide) (by rfl) (pa_cons (pv 0) (pa_cons pe_int pa_nil)))))
        (pss_cut (ps_set (i := 7) sc_Lloads_right.nd rfl (.inl rfl) (pe_op op_add (pv 6) (pe_c c_Lpick hr (by decide) (by rfl) (pa_cons (pv 0) (pa_cons (pe_lst (pa_cons pe_int (pa_cons pe_int (pa_cons pe_int (pa_cons pe_int (pa_cons pe_int (pa_cons (pe_un un_neg pe_int) (pa_cons (pe_un un_neg pe_int) pa_nil)))))))) pa_nil)))))
        (pss_cut (ps_set (i := 8) sc_Lloads_right.nd rfl (.inl rfl) (pe_callB (cr_sum rfl) (by rfl) T.b_sum (by decide +kernel) (pa_cons (pe_lc (own := [("moment", 11)]) rfl sc_Lloads_right.nd (pi_range2 (by rfl) T.b_range (pa_cons (pv 6) (pa_cons (pv 7) pa_nil))) (blkOk_by (N := n_Lloads_right) (sc := defScope s_Lloads_right) (by decide +kernel)) (fun _ _ _ _ _ => (pg_name (i := 11) sc_Lloads_right.nd rfl (.inl rfl))) (fun _ _ _ _ _ => pts_nil) (fun _ _ _ _ _ => (pe_c c_Lneeds hr (by decide) (by rfl) (pa_cons (pv 3) (pa_cons (pv 2) (pa_cons (pv 11) pa_nil)))))) pa_nil)))
        (pss_cons (ps_if (pt_cmpR op_ne (pe_callB (call_showX hgd hr.units) (by rfl) T.b_repr (by decide +kernel) (pa_cons (pe_c c_load_between hr (by decide) (by rfl) (pa_cons (pv 1) (pa_cons (pv 2) (pa_cons (pv 6) (pa_cons (pv 7) pa_nil))))) pa_nil)) (pe_callB (call_showX hgd hr.units) (by rfl) T.b_repr (by decide +kernel) (pa_cons (pv 8) pa_nil)) (nomark _)) (pss_one (ps_ret pe_bl)) pss_nil)
        (pss_cons (ps_if (pt_cmpR op_ne (pe_kw k_load_between_last_first_point_wish hr (by decide) (by rfl) (pk_cons (pv 7) (pk_cons (pv 6) (pk_cons (pv 2) (pk_cons (pv 1) pk_nil))))) (pv 8) (nomark _)) (pss_one (ps_ret pe_bl)) pss_nil)
        (pss_one (ps_if (PW.pt (pw_and (pt_val (pe_c c_keeps_wish hr (by decide) (by rfl) (pa_cons (pv 1) (pa_cons (pv 2) pa_nil)))) (pw_and1 (pt_cmpR op_gt (pv 8) (pe_op op_mul (pe_c c_Lsize hr (by decide) (by rfl) (pa_cons (pv 1) pa_nil)) (pe_callB (call_max2 rfl) (by rfl) T.b_max (by decide +kernel) (pa_cons pe_int (pa_cons (pe_op op_sub (pv 7) (pv 6)) pa_nil)))) (nomark _))))) (pss_one (ps_ret pe_bl)) pss_nil))))))))
      (pss_cons (ps_set (i := 9) sc_Lloads_right.nd rfl (.inl rfl) (pe_callB (cr_sum rfl) (by rfl) T.b_sum (by decide +kernel) (pa_cons (pe_lc (own := [("job", 10)]) rfl sc_Lloads_right.nd (pi_tup (pv 3)) (blkOk_by (N := n_Lloads_right) (sc := defScope s_Lloads_right) (by decide +kernel)) (fun _ _ _ _ _ => (pg_name (i := 10) sc_Lloads_right.nd rfl (.inl rfl))) (fun _ _ _ _ _ => pts_nil) (fun _ _ _ _ _ => (pe_op op_mul (pe_ix (r := rIxT K) ix_tup (pv 10) pe_int (fun _ _ => rfl)) (pe_ix (r := rIxT K) ix_tup (pv 10) pe_int (fun _ _ => rfl))))) pa_nil)))
      (pss_one (ps_ret (pe_cmpR op_eq (pe_c c_load_between hr (by decide) (by rfl) (pa_cons (pv 1) (pa_cons (pv 2) (pa_cons (pe_op op_sub (pv 4) (pe_op op_pow pe_int pe_int)) (pa_cons (pe_op op_add (pv 4) (pe_op op_pow pe_int pe_int)) pa_nil))))) (pv 9) (nomark _)))))))), ?_⟩
    have few := wb.ok.few
    have pos := wb.ok.pos pt
    have nz : 0 ≤ x.size := by have := wb.z1; omega
    refine ⟨_, rfl, v, x, rfl, hv, by omega, fun pj us H1 s1 hpj lv => ?_⟩
    have a1 := a.same s1
    have lus := lv.len
    have une : us ≠ [] := fun z => by rw [z] at lus; exact wb.ok.some (List.length_eq_zero_iff.mp lus.symm)
    refine ⟨_, rfl, _, rfl, _, rfl, h, q, pj, us, rfl, a1, .inr hpj, une, by omega, fun vj H2 mv a2 kp2 => ?_⟩
    have kp02 : Kpt h q H H2 := (Kpt.of_same s1).trans kp2
    have tk2 := TK.kp kp02 a
    obtain ⟨i0, hi0⟩ := List.mem_iff_getElem?.mp mv
    obtain ⟨j0, hj0, tj, rfl, htj⟩ := lv.at_ hi0
    have mj0 := List.mem_of_getElem? hj0
    have htj2 := TK.kp kp2 a1 _ _ htj
    have hpj2 := TK.kp kp2 a1 _ _ hpj
    have lv2 := jsTk (TK.kp kp2 a1) lv
    obtain ⟨pp, rfl, hpp⟩ := id hpt
    have l0 := wb.ok.pl j0 mj0
    refine ⟨tj, _, 0, _, rfl, rfl, sq_tup htj2, rfl, pp, _, (j0.1 : Int), _, rfl, rfl, sq_tup (tk2 _ _ hpp), atI_nat (ptAt l0), ?_⟩
    have b9 := pb.at_ l0
    generalize hbase : pt.getD j0.1 0 = bs at *
    have fo' : far.natAbs ≤ 1000000 := fo
    refine ⟨fun σ H' => ∃ y5 y6 y7 y8 y11, σ = [some (.ref h), some v, some (.ref pp), some (.ref pj), some (.int bs), y5, y6, y7, y8, none, none, y11] ∧ HpAt H' h q ∧ Kpt h q H H' ∧ TK H2 H', ?_, fun σ H3 hM => ?_⟩
    · refine ⟨2, rfl, by decide, by decide, for_range (lo := 0) (n := (2 : Int).toNat) (fun i σ H' => ∃ y5 y6 y7 y8 y11, σ = [some (.ref h), some v, some (.ref pp), some (.ref pj), some (.int bs), y5, y6, y7, y8, none, none, y11] ∧ HpAt H' h q ∧ Kpt h q H H' ∧ TK H2 H') ⟨none, none, none, none, none, rfl, a2, kp02, TK.refl _⟩ (fun i σ H3 hi hI => ?_) (fun σ H3 hI => hI)⟩
      obtain ⟨y5, y6, y7, y8, y11, rfl, a3, kp3, tk3⟩ := hI
      refine ⟨_, rfl, _, rfl, h, q, 5, rfl, a3, by decide, by decide, fun d H4 d0 d5 a4 kp4 => ?_⟩
      refine ⟨_, _, rfl, rfl, ?_⟩
      have tk4 := tk3.trans (TK.kp kp4 a3)
      refine ⟨fun σ H' => ∃ la, σ = [some (.ref h), some v, some (.ref pp), some (.ref pj), some (.int bs), some (.int (0 + (i : Nat))), some (.int (bs - d)), some (.int la), y8, none, none, y11] ∧ la ≤ bs - d + 12 ∧ bs - d - 7 ≤ la ∧ HpAt H' h q ∧ Kpt h q H H' ∧ TK H2 H', ?_, fun σ H5 hM => ?_⟩
      · refine ⟨_, rfl, _, rfl, _, rfl, _, rfl, by show 7 ≤ sizeLine; rw [sizeLine_eq]; omega, fun p np => ?_⟩
        have s7 := same_upd (o := .lst [.int 0, .int 1, .int 2, .int 5, .int 12, .int (-1), .int (-7)]) np
        obtain ⟨p1, p2⟩ := a4.fresh np
        refine ⟨h, q, p, _, rfl, a4.same s7, .inl ⟨upd_same, p1, p2⟩, by simp, by show 7 ≤ 1000; decide, fun vv H8 mv a8 kp8 => ?_⟩
        obtain ⟨g, rfl, g1, g9⟩ : ∃ g, vv = .int g ∧ -7 ≤ g ∧ g ≤ 12 := by
          simp only [List.mem_cons, List.not_mem_nil, or_false] at mv
          rcases mv with rfl | rfl | rfl | rfl | rfl | rfl | rfl <;> exact ⟨_, rfl, by decide, by decide⟩
        exact ⟨_, _, rfl, rfl, bs - d + g, rfl, by omega, by omega, a8, ((kp3.trans kp4).trans (.of_same s7)).trans kp8, (tk4.trans (TK.of s7)).trans (TK.kp kp8 (a4.same s7))⟩
      obtain ⟨la, rfl, la1, la2, a5, kp5, tk5⟩ := hM
      generalize hfi : bs - d = fi at *
      have hpj5 := tk5 _ _ hpj2
      have hpp5 : H5 pp = some (tI pt) := TK.kp kp5 a _ _ hpp
      have hv5 := hv.tk (TK.kp kp5 a)
      refine ⟨fun σ H' => ∃ y11, σ = [some (.ref h), some v, some (.ref pp), some (.ref pj), some (.int bs), some (.int (0 + (i : Nat))), some (.int fi), some (.int la), some (.int (lb (sps x.jobs pt) fi la)), none, none, y11] ∧ Same H5 H', ?_, fun σ H6 hM => ?_⟩
      · refine ⟨_, rfl, _, rfl, fi, la, rfl, ⟨by omega, by omega, by omega, by omega⟩, fun D nD => ?_⟩
        refine lc_range (lo := fi) (n := (la - fi).toNat) (fun i H' => ∃ ns : List Int, H' D = some (tL ns) ∧ ns.sum = lb (sps x.jobs pt) fi (fi + i) ∧ ns.length = i ∧ Same H5 H') ⟨[], upd_same, by rw [lb_nil pos (by omega)]; rfl, rfl, same_upd nD⟩ (fun i H6 hi hI => ?_) (fun H6 hI => ?_)
        · obtain ⟨ns, hD, sum, ln, sm⟩ := hI
          refine ⟨rfl, _, rfl, _, rfl, _, rfl, .ref pj, .ref pp, x.jobs, pt, fi + (i : Nat), rfl, ⟨pj, us, rfl, sm _ _ hpj5, jsTk (tk5.trans (TK.of sm)) lv2⟩, ⟨pp, rfl, sm _ _ hpp5⟩, wb.ok.pl, few, fun H7 s7 => ?_⟩
          refine ⟨_, s7 _ _ hD, by rw [List.length_map]; exact small1000 (by omega), ns ++ [ld (sps x.jobs pt) (fi + (i : Nat))], ?_, ?_, by rw [List.length_append, ln]; rfl, same_at (sm.trans s7) nD⟩
          · rw [upd_same]
            show some (HO.lst _) = some (HO.lst ((ns ++ [_]).map V.int))
            rw [List.map_append]; rfl
          · rw [List.sum_append, sum, show fi + ((i + 1 : Nat) : Int) = fi + i + 1 by omega, lb_step pos (by omega)]; simp
        · obtain ⟨ns, hD, sum, ln, sm⟩ := hI
          refine ⟨D, ns, rfl, sq_lst hD, ?_⟩
          have e : lb (sps x.jobs pt) fi (fi + ((la - fi).toNat : Nat)) = lb (sps x.jobs pt) fi la := by
            by_cases z : fi ≤ la
            · rw [show fi + ((la - fi).toNat : Int) = la by omega]
            · rw [lb_nil pos (by omega), lb_nil pos (by omega)]
          rw [sum, e]
          exact ⟨_, rfl, sm⟩
      obtain ⟨y11, rfl, s6⟩ := hM
      have hv6 := hv5.tk (TK.of s6)
      have hpt6 : LV H6 (.ref pp) pt := ⟨pp, rfl, s6 _ _ hpp5⟩
      have big : 0 ≤ lb (sps x.jobs pt) fi la ∧ lb (sps x.jobs pt) fi la ≤ 80 * 12 ∧ ∀ z, (∀ m, ld (sps x.jobs pt) m ≤ z) → lb (sps x.jobs pt) fi la ≤ z * (if la - fi > 0 then la - fi else 0) := by
        by_cases z : fi ≤ la
        · obtain ⟨n, hn⟩ : ∃ n : Nat, la = fi + n := ⟨(la - fi).toNat, by omega⟩
          have n12 : n ≤ 12 := by omega
          have h1 := lb_nn pos fi n
          have h80 : ∀ m, ld (sps x.jobs pt) m ≤ 80 := fun m => by
            have := ld_le (c := 4) (by decide) m _ wb.d4
            rw [sps_len] at this
            omega
          have h2 := lb_le pos h80 fi n
          rw [← hn] at h1 h2
          refine ⟨h1, by omega, fun zz hz => ?_⟩
          have h3 := lb_le pos hz fi n
          rw [← hn] at h3
          have : (if la - fi > 0 then la - fi else 0) = (n : Int) := by split <;> omega
          rw [this]; exact h3
        · rw [lb_nil pos (by omega)]
          refine ⟨by decide, by decide, fun zz _ => ?_⟩
          rw [if_neg (by omega), Int.mul_zero]; exact Int.le_refl _
      have shd : Shw 60 1000000 (.int (lb (sps x.jobs pt) fi la)) := (Shw.int (by omega)).mono (by decide) (by decide)
      refine ⟨_, rfl, _, rfl, _, rfl, _, rfl, v, .ref pp, x, pt, fi, la, rfl, hv6, hpt6, wb.ok, fun H7 s7 => ?_⟩
      refine ⟨_, _, rfl, .int _, shd, .inr (.inr ⟨_, rfl⟩), _, rfl, _, _, rfl, .int _, shd, .inr (.inr ⟨_, rfl⟩), rfl, _, rfl, ite2 (fun z => by simp at z) (fun _ => ?_)⟩
      have s67 := s6.trans s7
      refine ⟨_, rfl, _, rfl, _, rfl, _, rfl, v, .ref pp, x, pt, fi, la, rfl, hv5.tk (TK.of s67), ⟨pp, rfl, s67 _ _ hpp5⟩, wb.ok, fun H8 s8 => ?_⟩
      refine ⟨_, rfl, rfl, _, rfl, ite2 (fun z => by simp at z) (fun _ => ?_)⟩
      have s68 := s67.trans s8
      refine ⟨_, rfl, _, rfl, v, .ref pp, x, pt, rfl, hv5.tk (TK.of s68), ⟨pp, rfl, s68 _ _ hpp5⟩, wb.ok, nz, fun b H9 hb s9 => ?_⟩
      have s69 := s68.trans s9
      have fin : ∃ y5 y6 y7 y8 y11_1, [some (.ref h), some v, some (.ref pp), some (.ref pj), some (.int bs), some (.int (0 + (i : Nat))), some (.int fi), some (.int la), some (.int (lb (sps x.jobs pt) fi la)), none, none, y11] = [some (V.ref h), some v, some (.ref pp), some (.ref pj), some (.int bs), y5, y6, y7, y8, none, none, y11_1] ∧ HpAt H9 h q ∧ Kpt h q H H9 ∧ TK H2 H9 :=
        ⟨_, _, _, _, _, rfl, a5.same s69, kp5.trans (.of_same s69), tk5.trans (TK.of s69)⟩
      refine ⟨_, rfl, ite2 (fun hbt => ?_) (fun hbt => ?_)⟩
      · have h9 := wb.z9
        have le := big.2.2 _ (hb.mp hbt)
        refine ⟨_, rfl, _, rfl, v, x, rfl, hv5.tk (TK.of s69), _, rfl, _, rfl, _, _, rfl, rfl, _, _, rfl, _, _, rfl, rfl, .inl ⟨by omega, by omega⟩, _, _, rfl, rfl, _, rfl, iteF' ?_ fin⟩
        simp only [decide_eq_true_eq]
        omega
      · exact iteF' (by simp) fin
    obtain ⟨y5, y6, y7, y8, y11, rfl, a3, kp3, tk3⟩ := hM
    have hpj3 := tk3 _ _ hpj2
    have lv3 := jsTk tk3 lv2
    refine ⟨_, rfl, pj, rfl, ⟨_, sq_tup hpj3⟩, fun D nD => ?_⟩
    refine lc_tup (K := K) (a := pj) (xs := us) (fun i H' => ∃ ns : List Int, H' D = some (tL ns) ∧ ns.sum = whole (sps (x.jobs.take i) pt) ∧ ns.length ≤ i ∧ Same H3 H') ⟨[], upd_same, rfl, Nat.le_refl _, same_upd nD⟩ (fun i H' _ h => by obtain ⟨_, _, _, _, sm⟩ := h; exact sq_tup (sm _ _ hpj3)) ?_ ?_
    · rintro i y H4 hy ⟨ns, hD, sum, ln, sm⟩
      obtain ⟨j, hj, t, rfl, ht⟩ := lv3.at_ hy
      have mj := List.mem_of_getElem? hj
      have li : i < x.jobs.length := (List.getElem?_eq_some_iff.mp hj).1
      have ht4 := sm _ _ ht
      have h1 := wb.ln j mj
      have h2 := wb.ok.ln j mj
      refine ⟨rfl, _, rfl, t, _, 1, _, rfl, rfl, sq_tup ht4, rfl, _, rfl, t, _, 2, _, rfl, rfl, sq_tup ht4, rfl, _, _, rfl, rfl, .inl ⟨by omega, by omega⟩, _, hD, by rw [List.length_map]; exact small1000 (by omega), ns ++ [j.2.1 * j.2.2], ?_, ?_, by rw [List.length_append]; show ns.length + 1 ≤ _; omega, same_at sm nD⟩
      · rw [upd_same]
        show some (HO.lst _) = some (HO.lst ((ns ++ [_]).map V.int))
        rw [List.map_append]; rfl
      · rw [sps_one hj, whole_app, List.sum_append, sum]
        show _ + [j.2.1 * j.2.2].sum = _ + (pt.getD j.1 0 + j.2.1 - pt.getD j.1 0) * j.2.2
        rw [show pt.getD j.1 0 + j.2.1 - pt.getD j.1 0 = j.2.1 by omega]; simp
    · rintro H4 ⟨ns, hD, sum, ln, sm⟩
      rw [lus, List.take_length] at sum
      refine ⟨D, ns, rfl, sq_lst hD, ?_⟩
      have kp4 := kp3.trans (.of_same (h := h) (q := q) sm)
      refine ⟨_, rfl, _, rfl, _, rfl, _, _, rfl, rfl, ⟨by decide, by decide, by decide⟩, _, _, rfl, rfl, _, rfl, _, _, rfl, rfl, ⟨by decide, by decide, by decide⟩, _, _, rfl, rfl, v, .ref pp, x, pt, _, _, rfl, hv.tk (TK.kp kp4 a), ⟨pp, rfl, TK.kp kp4 a _ _ hpp⟩, wb.ok, fun H5 s5 => ?_⟩
      refine ⟨_, rfl, rfl, ?_⟩
      have e : lb (sps x.jobs pt) (bs - 10 ^ (5 : Int).toNat) (bs + 10 ^ (5 : Int).toNat) = ns.sum := by
        rw [sum]
        refine lb_whole pos fun y hy => ?_
        obtain ⟨j, hj, rfl⟩ := List.mem_map.mp hy
        have h1 := wb.ln j hj
        have h2 := wb.ok.ln j hj
        have h3 := pb.at_ (wb.ok.pl j hj)
        show bs - 100000 ≤ pt.getD j.1 0 ∧ pt.getD j.1 0 + j.2.1 ≤ bs + 100000
        omega
      show Q (.bl (decide (V.int (lb (sps x.jobs pt) (bs - 10 ^ (5 : Int).toNat) (bs + 10 ^ (5 : Int).toNat)) = V.int ns.sum))) H5
      rw [e, decide_eq_true rfl]
      exact k _ ((a3.same sm).same s5) (kp4.trans (.of_same s5))
end
end M12

namespace M12
open PySem PySem.Spec PyProof.Rows L2 SX Own Gd
open C8 (Cal pe_c pe_gc pe_mk Mak pss_cut)
theorem inc_ext : ∀ (a b : List Int), a.Pairwise (· < ·) → b.Pairwise (· < ·) → (∀ k, k ∈ a ↔ k ∈ b) → a = b
  | [], [], _, _, _ => rfl
  | [], y :: b, _, _, h => by have := (h y).mpr (List.mem_cons_self ..); cases this
  | x :: a, [], _, _, h => by have := (h x).mp (List.mem_cons_self ..); cases this
  | x :: a, y :: b, ha, hb, h => by
    obtain ⟨a1, a2⟩ := List.pairwise_cons.mp ha
    obtain ⟨b1, b2⟩ := List.pairwise_cons.mp hb
    have exy : x = y := by
      rcases List.mem_cons.mp ((h x).mp (List.mem_cons_self ..)) with z | z
      · exact z
      · rcases List.mem_cons.mp ((h y).mpr (List.mem_cons_self ..)) with u | u
        · exact u.symm
        · have h1 := a1 y u
          have h2 := b1 x z
          omega
    subst exy
    rw [inc_ext a b a2 b2 fun k => ?_]
    constructor
    · intro hk
      rcases List.mem_cons.mp ((h k).mp (List.mem_cons_of_mem _ hk)) with z | z
      · have := a1 k hk; omega
      · exact z
    · intro hk
      rcases List.mem_cons.mp ((h k).mpr (List.mem_cons_of_mem _ hk)) with z | z
      · have := b1 k hk; omega
      · exact z
/-- each has its seats, none has another's meanwhile -/
structure GoodS (st en nd : Nat → Int) (n Z : Nat) (fd : List (Option (List Nat))) : Prop where
  len : fd.length = n
  sit : ∀ k, k < n → ∃ S, fd[k]? = some (some S) ∧ (S.length : Int) = nd k ∧ S.Pairwise (· < ·) ∧ ∀ s ∈ S, s < Z
  apart : ∀ k, k < n → ∀ j, j < n → k ≠ j → st k < en j → st j < en k → ∀ S S', fd[k]? = some (some S) → fd[j]? = some (some S') → ∀ s ∈ S, s ∉ S'
theorem inc_len {Z : Nat} : ∀ (l : List Nat) (lo : Nat), l.Pairwise (· < ·) → (∀ s ∈ l, lo ≤ s ∧ s < Z) → l.length ≤ Z - lo
  | [], _, _, _ => Nat.zero_le _
  | s :: r, lo, h, g => by
    obtain ⟨h1, h2⟩ := List.pairwise_cons.mp h
    obtain ⟨g1, g2⟩ := g s (List.mem_cons_self ..)
    have := inc_len r (s + 1) h2 fun x hx => ⟨h1 x hx, (g x (List.mem_cons_of_mem _ hx)).2⟩
    rw [List.length_cons]; omega
theorem natI_inc {l : List Nat} (h : l.Pairwise (· < ·)) : (natI l).Pairwise (· < ·) := by
  unfold natI
  rw [List.pairwise_map]
  exact h.imp fun {a b} z => by omega
section
variable {P : Program} {w : World} {K : PySem.W.Frag} {mg : Str → Option Value} {base : Heap} {aT : Addr} {es : Array DictEntry} {nn : Nat}
abbrev s_Lare_seats : Stmt := topS 42
abbrev n_Lare_seats : List Str := ["wish", "point", "found", "jobs", "size", "at", "some", "seat", "other", "one", "length", "need", "two", "reach", "more", "together"]
theorem sc_Lare_seats : FnScope n_Lare_seats ["wish", "point", "found"] (defScope s_Lare_seats) := ⟨rfl, rfl, rfl, by decide +kernel, rfl, by decide +kernel, by decide +kernel⟩
def spAre : Sp := fun vs H Q _ => ∃ (v v2 : V) (p : Addr) (us : List V) (fd : List (Option (List Nat))) (x : Wh) (pt : List Int), vs = [v, v2, .ref p] ∧ WhV H v x ∧ LV H v2 pt ∧ WOk pt.length x ∧ 0 ≤ x.size ∧ x.size ≤ 1000 ∧ H p = some (.tup us) ∧ All2 (SeatV H) us fd ∧ GoodS (stF x.jobs pt) (enF x.jobs pt) (ndF x.jobs) x.jobs.length x.size.toNat fd ∧ ∀ H', Same H H' → Q (.bl true) H'
theorem ok_Lare_seats {f : Addr} {fd : FuncData} (F : Fun K "_law_are_seats" "_law_are_seats" s_Lare_seats f fd) (T : Txt K mg w aT es nn) (c_Ljobs : Cal P w K mg base 1 "_law_jobs" spJobsOf []) (c_Lsize : Cal P w K mg base 1 "_law_size" spSize []) : FnG P w K mg base CX0 4 f fd ["wish", "point", "found"] spAre := by
  refine fun_okG F sc_Lare_seats (fun vs H Q E h => ?_) (fun cdv A outer s H vs Q E hgd hr h => ?_)
  · obtain ⟨v, v2, p, us, fd, x, pt, rfl, _⟩ := h
    rfl
  · obtain ⟨v, v2, p, us, fd, x, pt, rfl, hv, hpt, ok, z0, z9, hp, fv, good, q⟩ := h
    refine ⟨_, (pss_cons (ps_par (i := 3) (j := 4) (by rfl) sc_Lare_seats.nd rfl rfl (by decide) rfl rfl (pa_cons (pe_c c_Ljobs hr (by decide) (by rfl) (pa_cons (pv 0) pa_nil)) (pa_cons (pe_c c_Lsize hr (by decide) (by rfl) (pa_cons (pv 0) pa_nil)) pa_nil)) (by rfl))
      (pss_cons (ps_if (PW.pt (pw_or (pt_not (pt_val (pe_callB call_isE (by rfl) T.b_isinstance (by decide +kernel) (pa_cons (pv 2) (pa_cons (pe_bltn (v := .ty "tuple") (by rfl) T.b_tuple boot_tuple rfl) pa_nil))))) (pw_or1 (pt_cmpR op_ne (pe_callB call_len_seq (by rfl) T.b_len (by decide +kernel) (pa_cons (pv 2) pa_nil)) (pe_callB call_len_seq (by rfl) T.b_len (by decide +kernel) (pa_cons (pv 3) pa_nil)) (nomark _))))) (pss_one (ps_ret pe_bl)) pss_nil)
      (pss_cons (ps_for PassesOwn.never rfl (pi_range1 (by rfl) T.b_range (pa_cons (pe_callB call_len_seq (by rfl) T.b_len (by decide +kernel) (pa_cons (pv 3) pa_nil)) pa_nil)) (pg_name (i := 5) sc_Lare_seats.nd rfl (.inl rfl)) (pss_cons (ps_set (i := 6) sc_Lare_seats.nd rfl (.inl rfl) (pe_ix ix_tup (pv 2) (pv 5) (fun _ _ => rfl)))
        (pss_cons (ps_if (PW.pt (pw_or (pt_not (pt_val (pe_callB call_isE (by rfl) T.b_isinstance (by decide +kernel) (pa_cons (pv 6) (pa_cons (pe_bltn (v := .ty "tuple") (by rfl) T.b_tuple boot_tuple rfl) pa_nil))))) (pw_or (pt_cmpR op_ne (pe_callB call_len_seq (by rfl) T.b_len (by decide +kernel) (pa_cons (pv 6) pa_nil)) (pe_ix ix_tup (pe_ix ix_tup (pv 3) (pv 5) (fun _ _ => rfl)) pe_int (fun _ _ => rfl)) (nomark _)) (pw_or1 (pt_cmpR op_ne (pe_callB (call_showX hgd hr.units) (by rfl) T.b_repr (by decide +kernel) (pa_cons (pv 6) pa_nil)) (pe_callB (call_showX hgd hr.units) (by rfl) T.b_repr (by decide +kernel) (pa_cons (pe_callTy call_tuple_of (by rfl) T.b_tuple (by decide +kernel) (pa_cons (pe_callB (Own.cr_sortedSetN rfl) (by rfl) T.b_sorted (by decide +kernel) (pa_cons (pe_callTy (Own.cr_setTN rfl) (by rfl) T.b_set (by decide +kernel) (pa_cons (pv 6) pa_nil)) pa_nil)) pa_nil)) pa_nil)) (nomark _)))))) (pss_one (ps_ret pe_bl)) pss_nil)
        (pss_cut (ps_for PassesOwn.never rfl (pi_tup (pv 6)) (pg_name (i := 7) sc_Lare_seats.nd rfl (.inl rfl)) (pss_one (ps_if (PW.pt (pw_or (pt_not (pt_val (pe_callB call_isE (by rfl) T.b_isinstance (by decide +kernel) (pa_cons (pv 7) (pa_cons (pe_bltn (v := .ty "int") (by rfl) T.b_int boot_int rfl) pa_nil))))) (pw_or (pt_val (pe_callB call_isE (by rfl) T.b_isinstance (by decide +kernel) (pa_cons (pv 7) (pa_cons (pe_bltn (v := .ty "bool") (by rfl) T.b_bool boot_bool rfl) pa_nil)))) (pw_or (pt_cmpR op_lt (pv 7) pe_int (nomark _)) (pw_or1 (pt_cmpR op_ge (pv 7) (pv 4) (nomark _))))))) (pss_one (ps_ret pe_bl)) pss_nil)))
        (pss_one (ps_for PassesOwn.never rfl (pi_range1 (by rfl) T.b_range (pa_cons (pv 5) pa_nil)) (pg_name (i := 8) sc_Lare_seats.nd rfl (.inr rfl)) (pss_cons (ps_asg (pe_tup (pa_cons (pe_ix ix_tup (pv 3) (pv 5) (fun _ _ => rfl)) (pa_cons (pe_ix ix_tup (pv 3) (pv 8) (fun _ _ => rfl)) pa_nil))) (pg_tup rfl (pgs_cons (pg_tup rfl (pgs_cons (pg_name (i := 9) sc_Lare_seats.nd rfl (.inl rfl)) (pgs_cons (pg_name (i := 10) sc_Lare_seats.nd rfl (.inl rfl)) (pgs_cons (pg_name (i := 11) sc_Lare_seats.nd rfl (.inl rfl)) pgs_nil)))) (pgs_cons (pg_tup rfl (pgs_cons (pg_name (i := 12) sc_Lare_seats.nd rfl (.inl rfl)) (pgs_cons (pg_name (i := 13) sc_Lare_seats.nd rfl (.inl rfl)) (pgs_cons (pg_name (i := 14) sc_Lare_seats.nd rfl (.inl rfl)) pgs_nil)))) pgs_nil))))
          (pss_cut (ps_set (i := 15) sc_Lare_seats.nd rfl (.inl rfl) (pe_and (pe_cmpR op_lt (pe_ix ix_tup (pv 1) (pv 9) (fun _ _ => rfl)) (pe_op op_add (pe_ix ix_tup (pv 1) (pv 12) (fun _ _ => rfl)) (pv 13)) (nomark _)) (pe_one (pe_cmpR op_lt (pe_ix ix_tup (pv 1) (pv 12) (fun _ _ => rfl)) (pe_op op_add (pe_ix ix_tup (pv 1) (pv 9) (fun _ _ => rfl)) (pv 10)) (nomark _)))))
          (pss_one (ps_if (PW.pt (pw_and (pt_truth (pv 15) (by intro _; rfl)) (pw_and1 (pt_val (pe_callB (cr_any rfl) (by rfl) T.b_any (by decide +kernel) (pa_cons (pe_lc (own := [("seat", 7)]) rfl sc_Lare_seats.nd (pi_tup (pv 6)) (blkOk_by (N := n_Lare_seats) (sc := defScope s_Lare_seats) (by decide +kernel)) (fun _ _ _ _ _ => (pg_name (i := 7) sc_Lare_seats.nd rfl (.inl rfl))) (fun _ _ _ _ _ => pts_nil) (fun _ _ _ _ _ => (pe_cmpR (r := rIn K false) op_in_seq (pv 7) (pe_ix (r := rIxT K) ix_tup (pv 2) (pv 8) (fun _ _ => rfl)) (by rfl)))) pa_nil)))))) (pss_one (ps_ret pe_bl)) pss_nil))))))))))
      (pss_one (ps_ret pe_bl))))), ?_⟩
    have few := ok.few
    obtain ⟨pp, rfl, hpp⟩ := id hpt
    refine ⟨_, rfl, v, x, rfl, hv, by omega, fun pj us1 H1 s1 hpj lv => ?_⟩
    refine ⟨_, rfl, v, x, rfl, hv.tk (TK.of s1), _, _, rfl, ?_⟩
    have hp1 := s1 _ _ hp
    have lus := fv.len
    have lus1 := lv.len
    have lfd := good.len
    refine ⟨_, rfl, .ref p, .type "tuple", "tuple", true, rfl, .base (.base (.tup hp1)), by rfl, true, rfl, iteF ?_⟩
    refine ⟨_, rfl, p, _, rfl, .inr (sq_tup hp1), _, rfl, pj, _, rfl, .inr (sq_tup hpj), rfl, _, rfl, iteF' (by simp; omega) ?_⟩
    have fv1 := fv.mono fun _ _ g => g.tk (TK.of s1)
    have hpp1 := s1 _ _ hpp
    refine ⟨_, rfl, pj, _, rfl, .inr (sq_tup hpj), _, rfl, by omega, by omega, for_range (lo := 0) (n := ((us1.length : Nat) : Int).toNat) (fun i σ H' => ∃ y5 y6 y7 y8 y9 y10 y11 y12 y13 y14 y15, σ = [some v, some (.ref pp), some (.ref p), some (.ref pj), some (.int x.size), y5, y6, y7, y8, y9, y10, y11, y12, y13, y14, y15] ∧ Same H1 H')
      ⟨none, none, none, none, none, none, none, none, none, none, none, rfl, Same.refl _⟩ (fun i σ H2 hi hI => ?_) (fun σ H2 hI => ?_)⟩
    · obtain ⟨y5, y6, y7, y8, y9, y10, y11, y12, y13, y14, y15, rfl, s2⟩ := hI
      rw [Int.toNat_natCast] at hi
      rw [show ((0 : Int) + (i : Nat)) = (i : Int) by omega]
      have inn : i < x.jobs.length := by omega
      obtain ⟨S, eS, lS, incS, ltS⟩ := good.sit i inn
      obtain ⟨u, hu, uv⟩ := fv1.at2 eS
      obtain ⟨tS, rfl, htS⟩ := uv
      obtain ⟨ji, hji, pji, eji, hpji⟩ := lv.at_ (List.getElem?_eq_getElem hi)
      have huj : us1[i]? = some (.ref pji) := by rw [List.getElem?_eq_getElem hi, eji]
      have end_ : ndF x.jobs i = ji.2.2 := by unfold ndF; rw [jAt_at hji]
      rw [end_] at lS
      have hp2 := s2 _ _ hp1
      have htS2 := s2 _ _ htS
      have hpj2 := s2 _ _ hpj
      have Z1000 : x.size.toNat ≤ 1000 := by omega
      have lS1000 : S.length ≤ 1000 := by
        have := inc_len S 0 incS fun s hs => ⟨Nat.zero_le _, ltS s hs⟩
        omega
      refine ⟨_, rfl, _, rfl, p, us, (i : Int), .ref tS, rfl, rfl, sq_tup hp2, atI_nat hu, ?_⟩
      refine ⟨_, rfl, .ref tS, .type "tuple", "tuple", true, rfl, .base (.base (.tup htS2)), by rfl, true, rfl, iteF ?_⟩
      have shS : Shw 60 1000000 (dI (natI S)) := shI (fun c hc => by
        obtain ⟨k, hk, rfl⟩ := List.mem_map.mp hc
        have := ltS k hk
        unfold Sh12; omega) (by rw [natI_len]; omega)
      refine ⟨_, rfl, tS, _, rfl, .inr (sq_tup htS2), _, rfl, _, rfl, pj, _, (i : Int), _, rfl, rfl, sq_tup hpj2, atI_nat huj, pji, _, 2, _, rfl, rfl, sq_tup (s2 _ _ hpji), rfl, rfl, _, rfl, iteF' (by simp; rw [natI_len]; exact lS) ?_⟩
      refine ⟨_, rfl, _, _, rfl, dpI ⟨tS, rfl, htS2⟩, shS, .inl ⟨_, rfl⟩, ?_⟩
      refine ⟨_, rfl, tS, natI S, rfl, sq_tup htS2, by rw [natI_len]; exact lS1000, fun ps c hc nps => ?_⟩
      rw [natI_len] at hc
      have s3 : Same H2 _ := same_upd (o := SetO w ps (fun j => decide (j ∈ natI S)) c) nps
      refine ⟨ps, _, c, rfl, upd_same, by omega, fun ns p2 inc mem np2 => ?_⟩
      have ens : ns = natI S := inc_ext _ _ inc (natI_inc incS) fun k => by rw [mem k]; exact decide_eq_true_iff
      subst ens
      have s4 := s3.trans (same_upd (o := .lst ((natI S).map V.int)) np2)
      refine ⟨p2, _, rfl, .inl ⟨sq_lst upd_same, fun t nt => ?_⟩⟩
      have s5 := s4.trans (same_upd (o := .tup ((natI S).map V.int)) nt)
      refine ⟨_, _, rfl, dpI ⟨t, rfl, upd_same⟩, shS, .inl ⟨_, rfl⟩, rfl, _, rfl, iteF' (by simp) ?_⟩
      have s13 := s2.trans s5
      refine ⟨fun σ H' => ∃ y7, σ = [some v, some (.ref pp), some (.ref p), some (.ref pj), some (.int x.size), some (.int (i : Nat)), some (.ref tS), y7, y8, y9, y10, y11, y12, y13, y14, y15] ∧ Same H1 H', ?_, fun σ H4 hM => ?_⟩
      · refine ⟨_, rfl, tS, rfl, ⟨_, sq_tup (s5 _ _ htS2)⟩, for_tup (K := K) (a := tS) (xs := (natI S).map V.int) (fun i2 σ H' => ∃ y7, σ = [some v, some (.ref pp), some (.ref p), some (.ref pj), some (.int x.size), some (.int (i : Nat)), some (.ref tS), y7, y8, y9, y10, y11, y12, y13, y14, y15] ∧ Same H1 H')
          ⟨_, rfl, s13⟩ (fun i2 σ H' _ h => by obtain ⟨_, _, sm⟩ := h; exact sq_tup (sm _ _ htS)) ?_ (fun σ H' h => h)⟩
        rintro i2 y σ H4 hy ⟨y7, rfl, s4⟩
        obtain ⟨sI, hsI, rfl⟩ := at_map hy
        obtain ⟨sN, hsN, rfl⟩ := List.mem_map.mp (List.mem_of_getElem? hsI)
        have := ltS sN hsN
        refine ⟨_, rfl, .int _, .type "int", "int", true, rfl, .base (.base (.int _)), by rfl, true, rfl, iteF ⟨_, rfl, .int _, .type "int", "bool", false, rfl, .base (.base (.int _)), by rfl, false, rfl, iteF ⟨_, rfl, _, _, rfl, rfl, _, rfl, iteF' (by simp) ⟨_, rfl, _, rfl, _, _, rfl, rfl, _, rfl, iteF' (by simp; omega) ⟨_, rfl, s4⟩⟩⟩⟩⟩
      obtain ⟨y7, rfl, s4⟩ := hM
      refine ⟨_, rfl, (i : Int), rfl, by omega, by omega, for_range (lo := 0) (n := ((i : Nat) : Int).toNat) (fun o σ H' => ∃ y8 y9 y10 y11 y12 y13 y14 y15, σ = [some v, some (.ref pp), some (.ref p), some (.ref pj), some (.int x.size), some (.int (i : Nat)), some (.ref tS), y7, y8, y9, y10, y11, y12, y13, y14, y15] ∧ Same H1 H')
        ⟨_, _, _, _, _, _, _, _, rfl, s4⟩ (fun o σ H5 ho hO => ?_) (fun σ H5 hO => ?_)⟩
      · obtain ⟨y8, y9, y10, y11, y12, y13, y14, y15, rfl, s5⟩ := hO
        rw [Int.toNat_natCast] at ho
        rw [show ((0 : Int) + (o : Nat)) = (o : Int) by omega]
        obtain ⟨jo, hjo, pjo, ejo, hpjo⟩ := lv.at_ (List.getElem?_eq_getElem (show o < us1.length by omega))
        have huo : us1[o]? = some (.ref pjo) := by rw [List.getElem?_eq_getElem (by omega), ejo]
        obtain ⟨SO, eSO, _, _, _⟩ := good.sit o (by omega)
        obtain ⟨uo, huO, tO, euo, htO⟩ := fv1.at2 eSO
        subst euo
        have sqj := sq_tup (K := K) (s5 _ _ hpj)
        refine ⟨_, rfl, _, rfl, pj, us1, (i : Int), _, rfl, rfl, sqj, atI_nat huj, _, rfl, _, rfl, pj, us1, (o : Int), _, rfl, rfl, sqj, atI_nat huo, len2, fun t nt => ?_⟩
        have s6 := s5.trans (same_upd (o := .tup [.ref pji, .ref pjo]) nt)
        have et : upd H5 t (.tup [.ref pji, .ref pjo]) t = some (.tup [.ref pji, .ref pjo]) := upd_same
        generalize upd H5 t (.tup [.ref pji, .ref pjo]) = H6 at *
        refine ⟨t, _, rfl, sq_tup et, rfl, _, _, rfl, pji, _, rfl, sq_tup (s6 _ _ hpji), rfl, _, _, rfl, _, _, rfl, _, _, rfl, rfl, _, _, rfl, pjo, _, rfl, sq_tup (s6 _ _ hpjo), rfl, _, _, rfl, _, _, rfl, _, _, rfl, rfl, rfl, ?_⟩
        have esi : stF x.jobs pt i = pt.getD ji.1 0 := by unfold stF; rw [jAt_at hji]
        have eso : stF x.jobs pt o = pt.getD jo.1 0 := by unfold stF; rw [jAt_at hjo]
        have eei : enF x.jobs pt i = pt.getD ji.1 0 + ji.2.1 := by unfold enF; rw [esi, jAt_at hji]
        have eeo : enF x.jobs pt o = pt.getD jo.1 0 + jo.2.1 := by unfold enF; rw [eso, jAt_at hjo]
        have api := atI_nat (ptAt (ok.pl ji (List.mem_of_getElem? hji)))
        have apo := atI_nat (ptAt (ok.pl jo (List.mem_of_getElem? hjo)))
        refine ⟨fun σ H' => ∃ b, σ = [some v, some (.ref pp), some (.ref p), some (.ref pj), some (.int x.size), some (.int (i : Nat)), some (.ref tS), y7, some (.int (o : Nat)), some (.int ji.1), some (.int ji.2.1), some (.int ji.2.2), some (.int jo.1), some (.int jo.2.1), some (.int jo.2.2), some (.bl b)] ∧ (b = true → stF x.jobs pt i < enF x.jobs pt o ∧ stF x.jobs pt o < enF x.jobs pt i) ∧ Same H1 H', ?_, fun σ H7 hM => ?_⟩
        · have hpp6 := sq_tup (K := K) (s6 _ _ hpp1)
          refine ⟨_, rfl, _, rfl, pp, _, (ji.1 : Int), _, rfl, rfl, hpp6, api, _, rfl, _, rfl, pp, _, (jo.1 : Int), _, rfl, rfl, hpp6, apo, _, rfl, _, _, rfl, rfl, _, _, rfl, rfl, _, rfl, ite2 (fun h1 => ?_) (fun h1 => ⟨_, rfl, fun z => (nomatch z), s6⟩)⟩
          refine ⟨_, rfl, _, rfl, pp, _, (jo.1 : Int), _, rfl, rfl, hpp6, apo, _, rfl, _, rfl, pp, _, (ji.1 : Int), _, rfl, rfl, hpp6, api, _, rfl, _, _, rfl, rfl, _, _, rfl, rfl, _, rfl, fun h2 => ?_, s6⟩
          rw [esi, eso, eei, eeo]
          exact ⟨of_decide_eq_true h1, of_decide_eq_true h2⟩
        obtain ⟨b, rfl, hb, s7⟩ := hM
        have fin : ∃ y8 y9 y10 y11 y12 y13 y14 y15, [some v, some (.ref pp), some (.ref p), some (.ref pj), some (.int x.size), some (.int (i : Nat)), some (.ref tS), y7, some (.int (o : Nat)), some (.int ji.1), some (.int ji.2.1), some (.int ji.2.2), some (.int jo.1), some (.int jo.2.1), some (.int jo.2.2), some (.bl b)] = [some v, some (V.ref pp), some (.ref p), some (.ref pj), some (.int x.size), some (.int (i : Nat)), some (.ref tS), y7, y8, y9, y10, y11, y12, y13, y14, y15] ∧ True := ⟨_, _, _, _, _, _, _, _, rfl, trivial⟩
        refine ⟨_, rfl, b, rfl, ite2 (fun hbt => ?_) (fun hbt => iteF' (by simp) ⟨_, _, _, _, _, _, _, _, rfl, s7⟩)⟩
        obtain ⟨o1, o2⟩ := hb hbt
        have dis := good.apart i inn o (by omega) (by omega) o1 o2 S SO eS eSO
        refine ⟨_, rfl, tS, rfl, ⟨_, sq_tup (s7 _ _ htS)⟩, fun D nD => ?_⟩
        refine lc_tup (K := K) (a := tS) (xs := (natI S).map V.int) (fun i2 H' => H' D = some (.lst ((List.replicate i2 false).map V.bl)) ∧ Same H7 H') ⟨upd_same, same_upd nD⟩ (fun i2 H' _ h => sq_tup (h.2 _ _ (s7 _ _ htS))) ?_ ?_
        · rintro i2 y H8 hy ⟨hD, sm⟩
          obtain ⟨sI, hsI, rfl⟩ := at_map hy
          obtain ⟨sN, hsN, rfl⟩ := List.mem_map.mp (List.mem_of_getElem? hsI)
          have s8 := s7.trans sm
          have li := (List.getElem?_eq_some_iff.mp hsI).1
          rw [natI_len] at li
          refine ⟨rfl, _, rfl, _, rfl, _, rfl, p, us, (o : Int), .ref tO, rfl, rfl, sq_tup (s8 _ _ hp1), atI_nat huO, tO, _, rfl, .inr (sq_tup (s8 _ _ htO)), rfl, allflat _, _, hD, by rw [List.length_map, List.length_replicate]; exact small1000 (by omega), ?_, same_at sm nD⟩
          have nin : ¬ ((sN : Int) ∈ natI SO) := fun z => by
            obtain ⟨k, hk, ek⟩ := List.mem_map.mp z
            have : k = sN := by omega
            exact dis sN hsN (this ▸ hk)
          rw [upd_same, List.replicate_succ', List.map_append, inV_int, decide_eq_false nin]; rfl
        · rintro H8 ⟨hD, sm⟩
          refine ⟨D, _, rfl, sq_lst hD, ?_⟩
          have : (List.replicate ((natI S).map V.int).length false).any id = false := by simp
          rw [this]
          exact ⟨_, rfl, iteF' (by simp) ⟨_, _, _, _, _, _, _, _, rfl, s7.trans sm⟩⟩
      · obtain ⟨y8, y9, y10, y11, y12, y13, y14, y15, rfl, s5⟩ := hO
        exact ⟨_, _, _, _, _, _, _, _, _, _, _, rfl, s5⟩
    · obtain ⟨y5, y6, y7, y8, y9, y10, y11, y12, y13, y14, y15, rfl, s2⟩ := hI
      exact q _ (s1.trans s2)
end
end M12

namespace M12
open PySem PySem.Spec PyProof.Rows L2 SX Own Gd
open C8 (Cal pe_c pe_gc pe_mk Mak pss_cut)
theorem sm_ld (js : List Jb) (pt : List Int) (m : Int) : ∀ i, i ≤ js.length → sm (fun k => if stF js pt k ≤ m ∧ m < enF js pt k then ndF js k else 0) (List.range i) = ld (sps (js.take i) pt) m
  | 0, _ => by simp [sm, sps, ld]
  | i + 1, h => by
    have e : js[i]? = some js[i] := List.getElem?_eq_getElem (by omega)
    have es : stF js pt i = pt.getD js[i].1 0 := by unfold stF; rw [jAt_at e]
    have ee : enF js pt i = pt.getD js[i].1 0 + js[i].2.1 := by unfold enF; rw [es, jAt_at e]
    have en : ndF js i = js[i].2.2 := by unfold ndF; rw [jAt_at e]
    rw [List.range_succ, sm_app, sm_ld js pt m i (by omega), sps_one e, ld_app]
    simp only [sm]
    rw [es, ee, en]; simp
theorem seats_main {x : Wh} {pt : List Int} (ok : WOk pt.length x) (z0 : 0 ≤ x.size) {ord : List Nat} (oo : OrdOk (stF x.jobs pt) x.jobs.length ord) :
    (∀ fd, seatsF x pt ord = some fd → GoodS (stF x.jobs pt) (enF x.jobs pt) (ndF x.jobs) x.jobs.length x.size.toNat fd ∧ ∀ m, ld (sps x.jobs pt) m ≤ x.size) ∧ ((∀ m, ld (sps x.jobs pt) m ≤ x.size) → seatsF x pt ord ≠ none) := by
  have mem : ∀ k ∈ ord, k < x.jobs.length := fun k hk => List.mem_range.mp (oo.pm.mem_iff.mp hk)
  have jm : ∀ k, k < x.jobs.length → jAt x.jobs k ∈ x.jobs := fun k hk => by
    have e : x.jobs[k]? = some x.jobs[k] := List.getElem?_eq_getElem hk
    rw [jAt_at e]; exact List.getElem_mem hk
  have sml : ∀ m, sm (fun k => if stF x.jobs pt k ≤ m ∧ m < enF x.jobs pt k then ndF x.jobs k else 0) ord = ld (sps x.jobs pt) m := fun m => by
    rw [sm_perm oo.pm, sm_ld _ _ _ _ (Nat.le_refl _), List.take_length]
  have base : SI (stF x.jobs pt) (enF x.jobs pt) (ndF x.jobs) x.jobs.length x.size.toNat [] (List.replicate x.jobs.length none) (List.replicate x.size.toNat none) :=
    ⟨List.length_replicate, List.length_replicate, fun k hk => (nomatch hk), fun k hk => (nomatch hk), fun t _ => by
      have : (List.replicate x.size.toNat (none : Option Int)).countP (busyB t) = 0 := by
        rw [List.countP_eq_zero]
        intro a ha
        rw [List.eq_of_mem_replicate ha]; simp [busyB]
      rw [this]; rfl⟩
  have r := run_ok (st := stF x.jobs pt) (en := enF x.jobs pt) (nd := ndF x.jobs) (n := x.jobs.length) (Z := x.size.toNat) (fun k hk => by have := ok.ln _ (jm k hk); unfold enF; omega) (fun k hk => by have := ok.nd _ (jm k hk); unfold ndF; omega) ord [] _ _ base (by rw [List.nil_append]; exact oo.pm.nodup_iff.mpr List.nodup_range) (by rw [List.nil_append]; exact mem) (by rw [List.nil_append]; exact oo.inc.imp fun {a b} h => by omega) (fun m => by simp only [sm]; omega)
  rw [List.nil_append] at r
  refine ⟨fun fd e => ?_, fun h => r.2 fun m => by rw [sml m]; have := h m; omega⟩
  obtain ⟨⟨ff, si⟩, le⟩ := r.1 fd e
  have ino : ∀ k, k < x.jobs.length → k ∈ ord := fun k hk => oo.pm.mem_iff.mpr (List.mem_range.mpr hk)
  refine ⟨⟨si.ld, fun k hk => ?_, fun k hk j hj => si.apart k (ino k hk) j (ino j hj)⟩, fun m => ?_⟩
  · obtain ⟨S, e1, e2, e3, e4⟩ := si.sit k (ino k hk)
    exact ⟨S, e1, e2, e3, fun s hs => (e4 s hs).1⟩
  · have := le m
    rw [sml m] at this
    omega
section
variable {P : Program} {w : World} {K : PySem.W.Frag} {mg : Str → Option Value} {base : Heap} {aT : Addr} {es : Array DictEntry} {nn : Nat}
abbrev s_Lseats_right : Stmt := topS 43
abbrev n_Lseats_right : List Str := ["wish", "point", "jobs", "found", "kept"]
theorem sc_Lseats_right : FnScope n_Lseats_right ["wish", "point"] (defScope s_Lseats_right) := ⟨rfl, rfl, rfl, by decide +kernel, rfl, by decide +kernel, by decide +kernel⟩
def spSeatsR (T0 : List (Addr × Str)) : Sp := fun vs H Q _ => ∃ (v v2 : V) (x : Wh) (pt : List Int), vs = [v, v2] ∧ WhV H v x ∧ LV H v2 pt ∧ WOk pt.length x ∧ 0 ≤ x.size ∧ x.size ≤ 1000 ∧ LamX.Tabs T0 H ∧ ∀ H', LamX.ExtN H H' → LamX.Tabs T0 H' → Q (.bl true) H'
theorem ok_Lseats_right {f CR : Addr} {T0 : List (Addr × Str)} {fd : FuncData} (F : Fun K "_law_seats_right" "_law_seats_right" s_Lseats_right f fd) (T : Txt K mg w aT es nn) (c_Ljobs : Cal P w K mg base 1 "_law_jobs" spJobsOf []) (c_Lsize : Cal P w K mg base 1 "_law_size" spSize []) (c_Lmost : Cal P w K mg base 3 "_law_most" spMost []) (c_Lare_seats : CalG P w K mg base 4 "_law_are_seats" spAre) (x_seats : CalX P w K mg base 9 "seats" (spSeats T0 CR)) (k_seats_point_wish : CalK P w K mg base 9 "seats" ["point", "wish"] List.reverse (spSeats T0 CR)) : FnG P w K mg base CX0 10 f fd ["wish", "point"] (spSeatsR T0) := by
  refine fun_okG F sc_Lseats_right (fun vs H Q E h => ?_) (fun cdv A outer s H vs Q E hgd hr h => ?_)
  · obtain ⟨v, v2, x, pt, rfl, _⟩ := h
    rfl
  · obtain ⟨v, v2, x, pt, rfl, hv, hpt, ok, z0, z9, tt, q⟩ := h
    refine ⟨_, (pss_cons (ps_set (i := 2) sc_Lseats_right.nd rfl (.inl rfl) (pe_c c_Ljobs hr (by decide) (by rfl) (pa_cons (pv 0) pa_nil)))
      (pss_cons (ps_par (i := 3) (j := 4) (by rfl) sc_Lseats_right.nd rfl rfl (by decide) rfl rfl (pa_cons (pe_x x_seats hr (by decide) (by rfl) (pa_cons (pv 0) (pa_cons (pv 1) pa_nil))) (pa_cons (pe_cmpR op_le (pe_ix ix_tup (pe_c c_Lmost hr (by decide) (by rfl) (pa_cons (pv 2) (pa_cons (pv 1) pa_nil))) pe_int (fun _ _ => rfl)) (pe_c c_Lsize hr (by decide) (by rfl) (pa_cons (pv 0) pa_nil)) (nomark _)) pa_nil)) (by rfl))
      (pss_cons (ps_if (pt_not (pt_truth (pv 4) (by intro _; rfl))) (pss_one (ps_ret (pe_and (pe_cmpR op_isN (pv 3) pe_non (nomark _)) (pe_one (pe_cmpR op_isN (pe_kw k_seats_point_wish hr (by decide) (by rfl) (pk_cons (pv 1) (pk_cons (pv 0) pk_nil))) pe_non (nomark _)))))) pss_nil)
      (pss_one (ps_ret (pe_and (pe_cG hgd c_Lare_seats hr (by decide) (by rfl) (pa_cons (pv 0) (pa_cons (pv 1) (pa_cons (pv 3) pa_nil)))) (pe_one (pe_cG hgd c_Lare_seats hr (by decide) (by rfl) (pa_cons (pv 0) (pa_cons (pv 1) (pa_cons (pe_kw k_seats_point_wish hr (by decide) (by rfl) (pk_cons (pv 1) (pk_cons (pv 0) pk_nil))) pa_nil))))))))))), ?_⟩
    have few := ok.few
    have pos := ok.pos pt
    refine ⟨_, rfl, v, x, rfl, hv, by omega, fun pj us H1 s1 hpj lv => ?_⟩
    have t1 : LamX.Tabs T0 H1 := fun p hp => (tt p hp).ext s1
    refine ⟨_, rfl, _, rfl, v, v2, x, pt, rfl, hv.tk (TK.of s1), hpt.same s1, ok, z0, t1, fun z => absurd z (by omega), fun _ ord oo => ⟨fun e H2 ex t2 => ?_, fun fd e p us2 H2 ex t2 hp fv => ?_⟩⟩
    · have ex0 := (ext_of s1).trans ex
      have tk := TK.ext ex0
      have nk : ¬ ∀ m, ld (sps x.jobs pt) m ≤ x.size := fun h => (seats_main ok z0 oo).2 h e
      refine ⟨_, rfl, _, rfl, .ref pj, v2, x.jobs, pt, rfl, ⟨pj, us, rfl, TK.ext ex _ _ hpj, jsTk (TK.ext ex) lv⟩, hpt.tk tk, ok.pl, few, pos, ok.some, fun pm m M H3 pk s3 hpm => ?_⟩
      have ex3 := ex0.trans (ext_of s3)
      have t3 : LamX.Tabs T0 H3 := fun p hp => (t2 p hp).ext s3
      refine ⟨pm, _, 1, _, rfl, rfl, sq_tup hpm, rfl, _, rfl, v, x, rfl, hv.tk (TK.ext ex3), _, _, rfl, rfl, ?_⟩
      have nM : ¬ M ≤ x.size := fun z => nk fun y => by have := pk.all y; omega
      refine ⟨_, _, rfl, _, rfl, _, rfl, iteT' (by show (!decide (M ≤ x.size)) = true; rw [decide_eq_false nM]; rfl) ?_⟩
      refine ⟨_, rfl, rfl, _, rfl, iteT' (by simp) ?_⟩
      refine ⟨_, rfl, _, rfl, v, v2, x, pt, rfl, hv.tk (TK.ext ex3), hpt.tk (TK.ext ex3), ok, z0, t3, fun z => absurd z (by omega), fun _ ord2 oo2 => ⟨fun e2 H4 ex4 t4 => ?_, fun fd e2 p us2 H4 ex4 t4 hp fv => absurd ((seats_main ok z0 oo2).1 fd e2).2 nk⟩⟩
      refine ⟨rfl, ?_⟩
      rw [show decide (V.non = V.non) = true from decide_eq_true rfl]
      exact q _ (ex3.trans ex4) t4
    · have ex0 := (ext_of s1).trans ex
      have tk := TK.ext ex0
      obtain ⟨good, hk⟩ := (seats_main ok z0 oo).1 fd e
      refine ⟨_, rfl, _, rfl, .ref pj, v2, x.jobs, pt, rfl, ⟨pj, us, rfl, TK.ext ex _ _ hpj, jsTk (TK.ext ex) lv⟩, hpt.tk tk, ok.pl, few, pos, ok.some, fun pm m M H3 pk s3 hpm => ?_⟩
      have ex3 := ex0.trans (ext_of s3)
      have t3 : LamX.Tabs T0 H3 := fun p hp => (t2 p hp).ext s3
      refine ⟨pm, _, 1, _, rfl, rfl, sq_tup hpm, rfl, _, rfl, v, x, rfl, hv.tk (TK.ext ex3), _, _, rfl, rfl, ?_⟩
      have yM : M ≤ x.size := by rw [← pk.at_]; exact hk m
      have fv3 := fv.mono fun _ _ g => SeatV.tk g (TK.of s3)
      refine ⟨_, _, rfl, _, rfl, _, rfl, iteF' (by show ¬ (!decide (M ≤ x.size)) = true; rw [decide_eq_true yM]; decide) ?_⟩
      refine ⟨_, rfl, _, rfl, _, rfl, v, v2, p, us2, fd, x, pt, rfl, hv.tk (TK.ext ex3), hpt.tk (TK.ext ex3), ok, z0, z9, s3 _ _ hp, fv3, good, fun H4 s4 => ?_⟩
      have ex4 := ex3.trans (ext_of s4)
      have t4 : LamX.Tabs T0 H4 := fun p hp => (t3 p hp).ext s4
      refine ⟨_, rfl, iteT' rfl ?_⟩
      refine ⟨_, rfl, _, rfl, _, rfl, _, rfl, v, v2, x, pt, rfl, hv.tk (TK.ext ex4), hpt.tk (TK.ext ex4), ok, z0, t4, fun z => absurd z (by omega), fun _ ord2 oo2 => ⟨fun e2 H5 ex5 t5 => absurd e2 ((seats_main ok z0 oo2).2 hk), fun fd2 e2 p2 us3 H5 ex5 t5 hp5 fv5 => ?_⟩⟩
      obtain ⟨good2, _⟩ := (seats_main ok z0 oo2).1 fd2 e2
      have exF := ex4.trans ex5
      refine ⟨v, v2, p2, us3, fd2, x, pt, rfl, hv.tk (TK.ext exF), hpt.tk (TK.ext exF), ok, z0, z9, hp5, fv5, good2, fun H6 s6 => q _ (exF.trans (ext_of s6)) fun p hp => (t5 p hp).ext s6⟩
end
end M12

namespace M12
open PySem PySem.Spec PyProof.Rows L2 SX Own Gd
open C8 (Cal pe_c pe_gc pe_mk Mak pss_cut)
/-! ### isinstance of a caught own error -/
def rIsC (K : PySem.W.Frag) (cls : Value) (d : Option Addr) (a : Addr) : List V → Hp → VK → Prop := fun xs H Q => ∃ (c : V) (cv : Value) (b : Bool) (D dd : Addr) (fs : List (Str × V)), cls = .ref D ∧ d = some dd ∧ IsE K D ∧ xs = [.ref a, c] ∧ (∀ u, RelV c u → u = cv) ∧ PySem.W.kitOne K (.ref D) cv = some b ∧ H dd = some (.xd fs) ∧ Q (.bl b) H
theorem call_isC {X : Cx} {a : Addr} {cls : Value} {d : Option Addr} {oe : Obj} {pn : List (Addr × Obj)} (hz : Zc cls d oe) (hf : ∃ vs, oe.data = .fields vs) : CallR (X.suite a ((a, oe) :: pn)) (.builtin "isinstance") (rIsC X.K cls d a) := by
  intro pins s σ H xs us Q I r h
  obtain ⟨c, cv, b, D, dd, fs, rfl, rfl, T, rfl, hcv, e, hdd, q⟩ := h
  obtain ⟨u1, u2, rfl, r1, r2⟩ := vals2 r
  cases (show u1 = Value.ref a from r1)
  obtain rfl := hcv _ r2
  have hget := (I.pin (a, oe) (List.mem_append.mpr (.inl (List.mem_cons_self ..)))).1
  obtain ⟨vs, hv⟩ := hf
  obtain ⟨m, ⟨od, es, ep, hod, hrest⟩, rel⟩ := (show ObjOk X.prog X.w H s.heap dd (.xd fs) from I.hok dd _ hdd)
  have J : PySem.W.InstAt s.heap a oe D (some od) := by
    obtain ⟨oc, od', oda, osl⟩ := oe
    obtain ⟨h1, h2⟩ := hz
    dsimp only at h1 h2 hv
    subst h1 h2 hv
    exact ⟨hget, rfl, rfl, hod⟩
  exact PySem.W.kia_one (PySem.W.kitx_exc T.cl T.ga T.gg T.exC T.ha T.hn T.htk T.hm) I.kIn J e (fun z => nomatch z) fun tk => ⟨.bl b, H, I.tok tk, rfl, q⟩
/-- the error that is caught -/
structure Ex1 (K : PySem.W.Frag) (mg : Str → Option Value) (CR CP : Addr) : Prop where
  r : ∃ f, ExT K mg "Refused" CR f
  rr : PySem.W.exmOne K (.ref CR) (.ref CR) = some true
  is : IsE K CR
  kv : PySem.W.kitOne K (.ref CR) (.type "ValueError") = some true
  kp : PySem.W.kitOne K (.ref CR) (.ref CP) = some false
  gp : ∃ u, mg "InvalidPoint" = some u ∧ RelV (.ref CP) u
section
variable {P : Program} {w : World} {K : PySem.W.Frag} {mg : Str → Option Value} {base : Heap} {aT : Addr} {es : Array DictEntry} {nn : Nat}
abbrev s_Lheard : Stmt := topS 44
abbrev n_Lheard : List Str := ["wish", "point", "error"]
theorem sc_Lheard : FnScope n_Lheard ["wish", "point"] (defScope s_Lheard) := ⟨rfl, rfl, rfl, by decide +kernel, rfl, by decide +kernel, by decide +kernel⟩
def CaughtS (CR : Addr) (Q : VK) : XK := fun cls d H => ∃ dd : Addr, cls = .ref CR ∧ d = some dd ∧ H dd = some (.xd [("word", .str "size")]) ∧ Q (.str "size") H
def spHeard (T : List (Addr × Str)) : Sp := fun vs H Q _ => ∃ (v v2 : V) (x : Wh) (pt : List Int), vs = [v, v2] ∧ WhV H v x ∧ LV H v2 pt ∧ WOk pt.length x ∧ 0 ≤ x.size ∧ LamX.Tabs T H ∧
  (1000 < x.size → ∀ H', LamX.ExtN H H' → LamX.Tabs T H' → Q (.str "size") H') ∧
  (x.size ≤ 1000 → ∀ ord, OrdOk (stF x.jobs pt) x.jobs.length ord → (seatsF x pt ord = none → ∀ H', LamX.ExtN H H' → LamX.Tabs T H' → Q .non H') ∧
    ∀ fd, seatsF x pt ord = some fd → ∀ p us H', LamX.ExtN H H' → LamX.Tabs T H' → H' p = some (.tup us) → All2 (SeatV H') us fd → Q (.ref p) H')
theorem ok_Lheard {f CR CP : Addr} {T0 : List (Addr × Str)} {fd : FuncData} (F : Fun K "_law_heard" "_law_heard" s_Lheard f fd) (T : Txt K mg w aT es nn) (E1 : Ex1 K mg CR CP) (x_seats : CalX P w K mg base 9 "seats" (spSeats T0 CR)) : FnOk P w K mg base CX0 11 f fd ["wish", "point"] (spHeard T0) := by
  obtain ⟨fR, tR⟩ := E1.r
  refine F.ok sc_Lheard (fun vs H Q E h => ?_) (fun cdv A outer s H vs Q E hr h => ?_)
  · obtain ⟨v, v2, x, pt, rfl, _⟩ := h
    rfl
  · obtain ⟨v, v2, x, pt, rfl, hv, hpt, ok, z0, tt, q1, q2⟩ := h
    refine ⟨_, pss_one (ps_try_named (X := (cxOf CX0 P w K mg base n_Lheard "_law_heard" (defScope s_Lheard) f cdv A outer s H E).nox) (i := 2) (n := "error") (Wout := fun _ _ _ _ => False)
      (tb := fun W D σ H => ∃ Ech : XK, (∀ cls d σ' H', Ech cls d H' → W cls d σ' H') ∧ tRet (tCall (spSeats T0 CR) [] Ech (tCons (tVar 0) (tCons (tVar 1) tNil))) D σ H)
      rfl rfl sc_Lheard.nd rfl rfl L2.takes0 (fun W pn xe tk _ => ?_)
      (.cons ⟨by rfl, by decide, .inl tR.gC⟩ (fun a oe cls d pn hz hf => pss_one (ps_ret (pe_ifExp (PW.pt (pw_and (pt_val (pe_callB (call_isC hz hf) (by rfl) T.b_isinstance (by decide +kernel) (pa_cons (pv 2) (pa_cons (pe_bltn (v := .ty "ValueError") (by rfl) T.b_ValueError (by rfl) rfl) pa_nil)))) (pw_and1 (pt_not (pt_val (pe_callB (call_isC hz hf) (by rfl) T.b_isinstance (by decide +kernel) (pa_cons (pv 2) (pa_cons (pe_gc (by rfl) E1.gp) pa_nil)))))))) (pe_xf tR.xf tR.noW hz hf (pv 2)) pe_str))) .nil)), ?_⟩
    · refine ⟨fun pins s' σ H' D I h' => ?_⟩
      obtain ⟨Ech, hW, h1⟩ := h'
      exact (pss_one (ps_ret (pe_xE (E := Ech) (passes_call tk hW) x_seats hr (by decide) (by rfl) (pa_cons (pv 0) (pa_cons (pv 1) pa_nil))))).run pins s' σ H' D I h1
    · refine ⟨CaughtS CR Q, fun cls d σ' H' hc => ?_, ?_⟩
      · obtain ⟨dd, rfl, rfl, hdd, k⟩ := hc
        have at2 : ∀ (a : Addr), 2 < σ'.length → (List.set σ' 2 (some (V.ref a)))[2]? = some (some (V.ref a)) := fun a hl => by rw [List.getElem?_set_self hl]
        refine ⟨true, E1.rr, fun _ a na hl => ?_, fun z => nomatch z⟩
        exact ⟨_, at2 a hl, .ty "ValueError", .type "ValueError", true, CR, dd, _, rfl, rfl, E1.is, rfl, fun u r => r, E1.kv, hdd, true, rfl, iteT ⟨_, at2 a hl, .ref CP, .ref CP, false, CR, dd, _, rfl, rfl, E1.is, rfl, fun u r => r, E1.kp, hdd, false, rfl, iteT ⟨_, at2 a hl, rfl, rfl, dd, _, .str "size", rfl, hdd, rfl, k⟩⟩⟩
      · refine ⟨_, rfl, _, rfl, v, v2, x, pt, rfl, hv, hpt, ok, z0, tt, fun hz d H' s' ed => ⟨d, rfl, rfl, ed, q1 hz H' (ext_of s') fun p hp => (tt p hp).ext s'⟩, fun hz ord oo => ?_⟩
        exact q2 hz ord oo
end
end M12

namespace M12
open PySem PySem.Spec PyProof.Rows L2 SX Own Gd
open C8 (Cal pe_c pe_gc pe_mk Mak pss_cut)
def KpN (h q : Addr) (H H' : Hp) : Prop := ∀ b o, H b = some o → b ≠ h → b ≠ q → (∀ ps, o ≠ .tbl ps) → H' b = some o
/-- a step of the law's world: the heap of draws stays one, all tuples stay -/
structure Stp (T0 : List (Addr × Str)) (h q : Addr) (H H' : Hp) : Prop where
  a : HpAt H' h q
  t : LamX.Tabs T0 H'
  k : KpN h q H H'
  tk : TK H H'
theorem Stp.refl {T0 : List (Addr × Str)} {h q : Addr} {H : Hp} (a : HpAt H h q) (t : LamX.Tabs T0 H) : Stp T0 h q H H := ⟨a, t, fun _ _ e _ _ _ => e, TK.refl _⟩
theorem Stp.trans {T0 : List (Addr × Str)} {h q : Addr} {H H1 H2 : Hp} (x : Stp T0 h q H H1) (y : Stp T0 h q H1 H2) : Stp T0 h q H H2 :=
  ⟨y.a, y.t, fun c o e n1 n2 n3 => y.k c o (x.k c o e n1 n2 n3) n1 n2 n3, x.tk.trans y.tk⟩
theorem Stp.same {T0 : List (Addr × Str)} {h q : Addr} {H H1 H2 : Hp} (x : Stp T0 h q H H1) (s : Same H1 H2) : Stp T0 h q H H2 :=
  ⟨x.a.same s, fun p hp => (x.t p hp).ext s, fun c o e n1 n2 n3 => s _ _ (x.k c o e n1 n2 n3), x.tk.trans (TK.of s)⟩
theorem Stp.kp {T0 : List (Addr × Str)} {h q : Addr} {H H1 H2 : Hp} (x : Stp T0 h q H H1) (a : HpAt H2 h q) (s : Kpt h q H1 H2) : Stp T0 h q H H2 :=
  ⟨a, Kpt.tab x.t x.a s, fun c o e n1 n2 n3 => s _ _ (x.k c o e n1 n2 n3) n1 n2, x.tk.trans (TK.kp s x.a)⟩
theorem Stp.ext {T0 : List (Addr × Str)} {h q : Addr} {H H1 H2 : Hp} (x : Stp T0 h q H H1) (e : LamX.ExtN H1 H2) (t : LamX.Tabs T0 H2) : Stp T0 h q H H2 := by
  refine ⟨?_, t, fun c o z n1 n2 n3 => e _ _ (x.k c o z n1 n2 n3) n3, x.tk.trans (TK.ext e)⟩
  obtain ⟨cs, st, a⟩ := x.a
  exact ⟨cs, st, a.ne, e _ _ a.hh (fun ps z => by cases z), e _ _ a.hq (fun ps z => by cases z), a.nn, a.ln, a.s0, a.s1⟩
theorem Stp.new {T0 : List (Addr × Str)} {h q p : Addr} {o : HO} {H H1 : Hp} (x : Stp T0 h q H H1) (n : H1 p = none) : Stp T0 h q H (upd H1 p o) := x.same (same_upd n)
/-! ### the wide room -/
def wpt (s d : Int) : List Int := [s, 7, s + d]
def wj (a b : Int) : List Jb := [(0, 3, a), (2, 4, b)]
theorem wOk {s d a b z : Int} (a1 : 1 ≤ a) (a2 : a ≤ 1000000000) (b1 : 1 ≤ b) (b2 : b ≤ 1000000000) : WOk (wpt s d).length (.room (wj a b) z) := by
  have two : ∀ {p : Jb → Prop}, p (0, 3, a) → p (2, 4, b) → ∀ j ∈ (Wh.room (wj a b) z).jobs, p j := fun h1 h2 j hj => by
    rcases List.mem_cons.mp hj with rfl | hj
    · exact h1
    · rcases List.mem_cons.mp hj with rfl | hj
      · exact h2
      · cases hj
  exact ⟨two (p := fun j => j.1 < 3) (by show (0 : Nat) < 3; decide) (by show (2 : Nat) < 3; decide), two (p := fun j => 1 ≤ j.2.1) (by show (1 : Int) ≤ 3; decide) (by show (1 : Int) ≤ 4; decide), two (p := fun j => 1 ≤ j.2.2) a1 b1, two (p := fun j => j.2.2 ≤ 1000000000) a2 b2, two (p := fun j => j.2.1 ≤ 1000000000) (by show (3 : Int) ≤ 1000000000; decide) (by show (4 : Int) ≤ 1000000000; decide), by show 2 ≤ 20; decide, fun e => by cases e⟩
theorem wld (s d a b m : Int) : ld (sps (wj a b) (wpt s d)) m = (if s ≤ m ∧ m < s + 3 then a else 0) + (if s + d ≤ m ∧ m < s + d + 4 then b else 0) := by
  show (if s ≤ m ∧ m < s + 3 then a else 0) + ((if s + d ≤ m ∧ m < s + d + 4 then b else 0) + 0) = _
  rw [Int.add_zero]
theorem wle {s d a b : Int} (a1 : 0 ≤ a) (b1 : 0 ≤ b) (m : Int) : ld (sps (wj a b) (wpt s d)) m ≤ a + b := by
  rw [wld]; repeat' split
  all_goals omega
theorem wPk {s d a b : Int} (d0 : 0 ≤ d) (d3 : d < 3) (a1 : 1 ≤ a) (b1 : 1 ≤ b) : Pk (sps (wj a b) (wpt s d)) (s + d) (a + b) := by
  refine ⟨?_, wle (by omega) (by omega), fun x hx => ?_⟩
  · rw [wld, if_pos (by omega), if_pos (by omega)]
  · rw [wld, if_neg (c := s + d ≤ x ∧ x < s + d + 4) (by omega)]
    split <;> omega
theorem wV {H : Hp} {t pj j1 j2 : Addr} {a b z : Int} (e1 : H j1 = some (.tup [.int 0, .int 3, .int a])) (e2 : H j2 = some (.tup [.int 2, .int 4, .int b])) (ej : H pj = some (.tup [.ref j1, .ref j2])) (et : H t = some (.tup [.str "room", .ref pj, .int z])) : WhV H (.ref t) (.room (wj a b) z) :=
  ⟨t, pj, _, rfl, et, ej, .cons ⟨j1, rfl, e1⟩ (.cons ⟨j2, rfl, e2⟩ .nil)⟩
def JsA (H : Hp) (pj : Addr) (a b : Int) : Prop := ∃ j1 j2, H j1 = some (.tup [.int 0, .int 3, .int a]) ∧ H j2 = some (.tup [.int 2, .int 4, .int b]) ∧ H pj = some (.tup [.ref j1, .ref j2])
theorem JsA.tk {H H' : Hp} {pj : Addr} {a b : Int} (x : JsA H pj a b) (k : TK H H') : JsA H' pj a b := by
  obtain ⟨j1, j2, e1, e2, e3⟩ := x
  exact ⟨j1, j2, k _ _ e1, k _ _ e2, k _ _ e3⟩
theorem JsA.wh {H H' : Hp} {pj t : Addr} {a b z : Int} (x : JsA H pj a b) (k : TK H H') (et : H' t = some (.tup [.str "room", .ref pj, .int z])) : WhV H' (.ref t) (.room (wj a b) z) := by
  obtain ⟨j1, j2, e1, e2, e3⟩ := x.tk k
  exact wV e1 e2 e3 et
theorem neS {a b : V} (h : a = b) : ¬ (!decide (a = b)) = true := by rw [decide_eq_true h]; decide
section
variable {P : Program} {w : World} {K : PySem.W.Frag} {mg : Str → Option Value} {base : Heap} {aT : Addr} {es : Array DictEntry} {nn : Nat}
abbrev s_Lwide_right : Stmt := topS 45
abbrev n_Lwide_right : List Str := ["heap", "start", "need", "point", "jobs", "more", "over"]
theorem sc_Lwide_right : FnScope n_Lwide_right ["heap"] (defScope s_Lwide_right) := ⟨rfl, rfl, rfl, by decide +kernel, rfl, by decide +kernel, by decide +kernel⟩
def spTurn (T0 : List (Addr × Str)) : Sp := fun vs H Q _ => ∃ (h q : Addr), vs = [.ref h] ∧ HpAt H h q ∧ LamX.Tabs T0 H ∧ ∀ H', Stp T0 h q H H' → Q (.bl true) H'
theorem ok_Lwide_right {f : Addr} {T0 : List (Addr × Str)} {fd : FuncData} (F : Fun K "_law_wide_right" "_law_wide_right" s_Lwide_right f fd) (T : Txt K mg w aT es nn) (c_Ldraw : Cal P w K mg base 1 "_law_draw" spDraw []) (c_Lpick : Cal P w K mg base 2 "_law_pick" spPick []) (c_Lare_seats : CalG P w K mg base 4 "_law_are_seats" spAre) (c_Lheard : Cal P w K mg base 11 "_law_heard" (spHeard T0) []) (c_peak : Cal P w K mg base 3 "peak" spPeak []) (c_keeps_wish : Cal P w K mg base 4 "keeps_wish" spKeeps []) : FnG P w K mg base CX0 12 f fd ["heap"] (spTurn T0) := by
  refine fun_okG F sc_Lwide_right (fun vs H Q E h => ?_) (fun cdv A outer s H vs Q E hgd hr h => ?_)
  · obtain ⟨h, q, rfl, _⟩ := h
    rfl
  · obtain ⟨h, q, rfl, a, tt, k⟩ := h
    refine ⟨_, (pss_cons (ps_par (i := 1) (j := 2) (by rfl) sc_Lwide_right.nd rfl rfl (by decide) rfl rfl (pa_cons (pe_op op_sub (pe_c c_Ldraw hr (by decide) (by rfl) (pa_cons (pv 0) (pa_cons pe_int pa_nil))) pe_int) (pa_cons (pe_op op_add pe_int (pe_c c_Ldraw hr (by decide) (by rfl) (pa_cons (pv 0) (pa_cons pe_int pa_nil)))) pa_nil)) (by rfl))
      (pss_cut (ps_set (i := 3) sc_Lwide_right.nd rfl (.inl rfl) (pe_tup (pa_cons (pv 1) (pa_cons pe_int (pa_cons (pe_op op_add (pv 1) (pe_c c_Ldraw hr (by decide) (by rfl) (pa_cons (pv 0) (pa_cons pe_int pa_nil)))) pa_nil)))))
      (pss_cut (ps_set (i := 4) sc_Lwide_right.nd rfl (.inl rfl) (pe_tup (pa_cons (pe_tup (pa_cons pe_int (pa_cons pe_int (pa_cons (pv 2) pa_nil)))) (pa_cons (pe_tup (pa_cons pe_int (pa_cons pe_int (pa_cons (pe_c c_Lpick hr (by decide) (by rfl) (pa_cons (pv 0) (pa_cons (pe_lst (pa_cons pe_int (pa_cons pe_int (pa_cons pe_int pa_nil)))) pa_nil))) pa_nil)))) pa_nil))))
      (pss_cons (ps_if (pt_not (pt_val (pe_cG hgd c_Lare_seats hr (by decide) (by rfl) (pa_cons (pe_tup (pa_cons pe_str (pa_cons (pv 4) (pa_cons pe_int pa_nil)))) (pa_cons (pv 3) (pa_cons (pe_c c_Lheard hr (by decide) (by rfl) (pa_cons (pe_tup (pa_cons pe_str (pa_cons (pv 4) (pa_cons pe_int pa_nil)))) (pa_cons (pv 3) pa_nil))) pa_nil)))))) (pss_one (ps_ret pe_bl)) pss_nil)
      (pss_cut (ps_set (i := 5) sc_Lwide_right.nd rfl (.inl rfl) (pe_op op_add pe_int (pe_op op_mul (pe_c c_Ldraw hr (by decide) (by rfl) (pa_cons (pv 0) (pa_cons pe_int pa_nil))) pe_int)))
      (pss_cons (ps_if (PW.pt (pw_or (pt_cmpR op_ne (pe_c c_Lheard hr (by decide) (by rfl) (pa_cons (pe_tup (pa_cons pe_str (pa_cons (pv 4) (pa_cons (pv 5) pa_nil)))) (pa_cons (pv 3) pa_nil))) pe_str (nomark _)) (pw_or1 (pt_cmpR op_ne (pe_ix ix_tup (pe_c c_peak hr (by decide) (by rfl) (pa_cons (pe_tup (pa_cons pe_str (pa_cons (pv 4) (pa_cons (pv 5) pa_nil)))) (pa_cons (pv 3) pa_nil))) pe_int (fun _ _ => rfl)) (pe_op op_add (pv 2) (pe_ix ix_tup (pe_ix ix_tup (pv 4) pe_int (fun _ _ => rfl)) pe_int (fun _ _ => rfl))) (nomark _))))) (pss_one (ps_ret pe_bl)) pss_nil)
      (pss_cut (ps_set (i := 6) sc_Lwide_right.nd rfl (.inl rfl) (pe_tup (pa_cons (pe_tup (pa_cons pe_int (pa_cons pe_int (pa_cons (pv 5) pa_nil)))) (pa_cons (pe_tup (pa_cons pe_int (pa_cons pe_int (pa_cons (pv 5) pa_nil)))) pa_nil))))
      (pss_one (ps_ret (pe_and (pe_cmpR op_eq (pe_c c_Lheard hr (by decide) (by rfl) (pa_cons (pe_tup (pa_cons pe_str (pa_cons (pv 6) (pa_cons (pv 5) pa_nil)))) (pa_cons (pv 3) pa_nil))) pe_str (nomark _)) (pe_one (pe_not (pe_c c_keeps_wish hr (by decide) (by rfl) (pa_cons (pe_tup (pa_cons pe_str (pa_cons (pv 6) (pa_cons (pv 5) pa_nil)))) (pa_cons (pv 3) pa_nil))))))))))))))), ?_⟩
    refine ⟨_, rfl, h, q, 50, rfl, a, by decide, by decide, fun d1 H1 d10 d11 a1 k1 => ⟨_, _, rfl, rfl, _, rfl, h, q, 9, rfl, a1, by decide, by decide, fun d2 H2 d20 d22 a2 k2 => ⟨_, _, rfl, rfl, _, _, rfl, ?_⟩⟩⟩
    have S2 : Stp T0 h q H H2 := ((Stp.refl a tt).kp a1 k1).kp a2 k2
    refine ⟨fun σ H' => ∃ d t, σ = [some (.ref h), some (.int (d1 - 25)), some (.int (1 + d2)), some (.ref t), none, none, none] ∧ Stp T0 h q H H' ∧ H' t = some (tI (wpt (d1 - 25) d)) ∧ 0 ≤ d ∧ d < 3, ?_, fun σ H3 hM => ?_⟩
    · refine ⟨_, rfl, _, rfl, _, rfl, h, q, 3, rfl, a2, by decide, by decide, fun d H3 d0 d3 a3 k3 => ⟨_, _, rfl, rfl, len3, fun t nt => ?_⟩⟩
      exact ⟨d, t, rfl, (S2.kp a3 k3).new nt, upd_same, d0, d3⟩
    obtain ⟨d, t, rfl, S3, ht, d0, d3⟩ := hM
    refine ⟨fun σ H' => ∃ b pj, σ = [some (.ref h), some (.int (d1 - 25)), some (.int (1 + d2)), some (.ref t), some (.ref pj), none, none] ∧ Stp T0 h q H H' ∧ TK H3 H' ∧ JsA H' pj (1 + d2) b ∧ 1 ≤ b ∧ b ≤ 990, ?_, fun σ H4 hM => ?_⟩
    · refine ⟨_, rfl, len3, fun j1 n1 => ⟨_, rfl, len3, fun l nl => ?_⟩⟩
      have S4 := (S3.new (o := .tup [.int 0, .int 3, .int (1 + d2)]) n1)
      have e1 : upd H3 j1 (.tup [.int 0, .int 3, .int (1 + d2)]) j1 = some (.tup [.int 0, .int 3, .int (1 + d2)]) := upd_same
      have k34 : TK H3 (upd H3 j1 (.tup [.int 0, .int 3, .int (1 + d2)])) := TK.of (same_upd n1)
      generalize upd H3 j1 (.tup [.int 0, .int 3, .int (1 + d2)]) = H4 at *
      have S5 := S4.new (o := .lst [.int 1, .int 2, .int 990]) nl
      obtain ⟨l1, l2⟩ := S4.a.fresh nl
      refine ⟨h, q, l, _, rfl, S5.a, .inl ⟨upd_same, l1, l2⟩, by simp, by show 3 ≤ 1000; decide, fun v H6 mv a6 kp6 => ?_⟩
      have S6 := S5.kp a6 kp6
      have k46 : TK H4 H6 := (TK.of (same_upd nl)).trans (TK.kp kp6 S5.a)
      obtain ⟨b, rfl, b1, b9⟩ : ∃ g, v = .int g ∧ 1 ≤ g ∧ g ≤ 990 := by
        simp only [List.mem_cons, List.not_mem_nil, or_false] at mv
        rcases mv with rfl | rfl | rfl <;> exact ⟨_, rfl, by decide, by decide⟩
      refine ⟨len3, fun j2 n2 => ⟨len2, fun pj npj => ?_⟩⟩
      have S7 := S6.new (o := .tup [.int 2, .int 4, .int b]) n2
      have k67 : TK H6 (upd H6 j2 (.tup [.int 2, .int 4, .int b])) := TK.of (same_upd n2)
      have e2 : upd H6 j2 (.tup [.int 2, .int 4, .int b]) j2 = some (.tup [.int 2, .int 4, .int b]) := upd_same
      generalize upd H6 j2 (.tup [.int 2, .int 4, .int b]) = H7 at *
      have k78 := TK.of (same_upd (o := .tup [.ref j1, .ref j2]) npj)
      exact ⟨b, pj, rfl, S7.new npj, (k34.trans (k46.trans k67)).trans k78, ⟨j1, j2, ((k46.trans k67).trans k78) _ _ e1, k78 _ _ e2, upd_same⟩, b1, b9⟩
    obtain ⟨b, pj, rfl, S4, tk4, J, b1, b9⟩ := hM
    have ht4 := tk4 _ _ ht
    generalize d1 - 25 = st at *
    have ok : ∀ z, WOk (wpt st d).length (.room (wj (1 + d2) b) z) := fun z => wOk (by omega) (by omega) (by omega) (by omega)
    have hle : ∀ m, ld (sps (Wh.room (wj (1 + d2) b) 1000).jobs (wpt st d)) m ≤ 1000 := fun m => Int.le_trans (wle (by omega) (by omega) m) (by omega)
    refine ⟨_, rfl, len3, fun t1 n1 => ?_⟩
    have S5 := S4.new (o := .tup [.str "room", .ref pj, .int 1000]) n1
    have k5 := TK.of (same_upd (o := .tup [.str "room", .ref pj, .int 1000]) n1)
    have et1 : upd H4 t1 (.tup [.str "room", .ref pj, .int 1000]) t1 = some (.tup [.str "room", .ref pj, .int 1000]) := upd_same
    generalize upd H4 t1 (.tup [.str "room", .ref pj, .int 1000]) = H5 at *
    refine ⟨_, rfl, _, rfl, len3, fun t2 n2 => ?_⟩
    have S6 := S5.new (o := .tup [.str "room", .ref pj, .int 1000]) n2
    have k6 := TK.of (same_upd (o := .tup [.str "room", .ref pj, .int 1000]) n2)
    have k56 := k5.trans k6
    refine ⟨_, rfl, .ref t2, .ref t, .room (wj (1 + d2) b) 1000, wpt st d, rfl, J.wh k56 upd_same, ⟨t, rfl, k56 _ _ ht4⟩, ok _, by show (0 : Int) ≤ 1000; decide, S6.t, fun hz => absurd hz (by show ¬ (1000 : Int) < 1000; decide), fun _ ord oo => ⟨fun e => absurd e ((seats_main (ok _) (by show (0 : Int) ≤ 1000; decide) oo).2 hle), fun fd e p us H7 ex tt7 hp fv => ?_⟩⟩
    have S7 := S6.ext ex tt7
    have k7 := TK.ext ex
    have k57 := k56.trans k7
    refine ⟨.ref t1, .ref t, p, us, fd, .room (wj (1 + d2) b) 1000, wpt st d, rfl, J.wh k57 ((k6.trans k7) _ _ et1), ⟨t, rfl, k57 _ _ ht4⟩, ok _, by show (0 : Int) ≤ 1000; decide, by show (1000 : Int) ≤ 1000; decide, hp, fv, ((seats_main (ok _) (by show (0 : Int) ≤ 1000; decide) oo).1 fd e).1, fun H8 s8 => ?_⟩
    have S8 := S7.same s8
    have k8 := k57.trans (TK.of s8)
    refine ⟨_, rfl, iteF' (by decide) ?_⟩
    refine ⟨fun σ H' => ∃ m, σ = [some (.ref h), some (.int st), some (.int (1 + d2)), some (.ref t), some (.ref pj), some (.int m), none] ∧ Stp T0 h q H H' ∧ TK H4 H' ∧ 1001 ≤ m ∧ m ≤ 601001, ?_, fun σ H9 hM => ?_⟩
    · refine ⟨_, rfl, h, q, 3, rfl, S8.a, by decide, by decide, fun e1 H9 e10 e13 a9 k9 => ⟨_, _, rfl, rfl, .inl ⟨by omega, by omega⟩, _, _, rfl, rfl, ?_⟩⟩
      exact ⟨1001 + e1 * 300000, rfl, S8.kp a9 k9, k8.trans (TK.kp k9 S8.a), by omega, by omega⟩
    obtain ⟨m, rfl, S9, k49, m1, m9⟩ := hM
    refine ⟨_, rfl, _, rfl, len3, fun t3 n3 => ?_⟩
    have S10 := S9.new (o := .tup [.str "room", .ref pj, .int m]) n3
    have k10 := k49.trans (TK.of (same_upd (o := .tup [.str "room", .ref pj, .int m]) n3))
    refine ⟨_, rfl, .ref t3, .ref t, .room (wj (1 + d2) b) m, wpt st d, rfl, J.wh k10 upd_same, ⟨t, rfl, k10 _ _ ht4⟩, ok _, by show 0 ≤ m; omega, S10.t, fun _ HA ex tA => ?_, fun hz => absurd (show m ≤ 1000 from hz) (by omega)⟩
    have SA := S10.ext ex tA
    have kA := k10.trans (TK.ext ex)
    refine ⟨rfl, _, rfl, iteF' (neS rfl) ?_⟩
    refine ⟨_, rfl, _, rfl, len3, fun t4 n4 => ?_⟩
    have SB := SA.new (o := .tup [.str "room", .ref pj, .int m]) n4
    have kB := kA.trans (TK.of (same_upd (o := .tup [.str "room", .ref pj, .int m]) n4))
    refine ⟨_, rfl, .ref t4, .ref t, .room (wj (1 + d2) b) m, wpt st d, rfl, J.wh kB upd_same, ⟨t, rfl, kB _ _ ht4⟩, ok _, fun pp pm pM HC pk sC hpp => ?_⟩
    obtain ⟨rfl, rfl⟩ := pk.one (wPk d0 d3 (by omega) (by omega))
    have SC := SB.same sC
    have kC := kB.trans (TK.of sC)
    obtain ⟨j1, j2, ej1, ej2, ejp⟩ := J.tk kC
    refine ⟨pp, _, 1, _, rfl, rfl, sq_tup hpp, rfl, _, rfl, _, rfl, pj, _, 1, _, rfl, rfl, sq_tup ejp, rfl, j2, _, 2, _, rfl, rfl, sq_tup ej2, rfl, _, _, rfl, rfl, ?_⟩
    refine ⟨rfl, _, rfl, iteF' (neS rfl) ?_⟩
    refine ⟨fun σ H' => ∃ po, σ = [some (.ref h), some (.int st), some (.int (1 + d2)), some (.ref t), some (.ref pj), some (.int m), some (.ref po)] ∧ Stp T0 h q H H' ∧ TK H4 H' ∧ JsA H' po m m, ?_, fun σ HD hM => ?_⟩
    · refine ⟨_, rfl, len3, fun j3 n5 => ⟨_, rfl, len3, fun j4 n6 => ⟨len2, fun po npo => ?_⟩⟩⟩
      have S1 := SC.new (o := .tup [.int 0, .int 3, .int m]) n5
      have q1 := TK.of (same_upd (o := .tup [.int 0, .int 3, .int m]) n5)
      have e1 : upd HC j3 (.tup [.int 0, .int 3, .int m]) j3 = some (.tup [.int 0, .int 3, .int m]) := upd_same
      generalize upd HC j3 (.tup [.int 0, .int 3, .int m]) = HE at *
      have S2 := S1.new (o := .tup [.int 2, .int 4, .int m]) n6
      have q2 := TK.of (same_upd (o := .tup [.int 2, .int 4, .int m]) n6)
      have e2 : upd HE j4 (.tup [.int 2, .int 4, .int m]) j4 = some (.tup [.int 2, .int 4, .int m]) := upd_same
      generalize upd HE j4 (.tup [.int 2, .int 4, .int m]) = HF at *
      have q3 := TK.of (same_upd (o := .tup [.ref j3, .ref j4]) npo)
      exact ⟨po, rfl, S2.new npo, kC.trans (q1.trans (q2.trans q3)), j3, j4, (q2.trans q3) _ _ e1, q3 _ _ e2, upd_same⟩
    obtain ⟨po, rfl, SD, kD, JO⟩ := hM
    have okO : WOk (wpt st d).length (.room (wj m m) m) := wOk (by omega) (by omega) (by omega) (by omega)
    refine ⟨_, rfl, _, rfl, len3, fun t5 n5 => ?_⟩
    have SE := SD.new (o := .tup [.str "room", .ref po, .int m]) n5
    have kE := TK.of (same_upd (o := .tup [.str "room", .ref po, .int m]) n5)
    refine ⟨_, rfl, .ref t5, .ref t, .room (wj m m) m, wpt st d, rfl, JO.wh kE upd_same, ⟨t, rfl, (kD.trans kE) _ _ ht4⟩, okO, by show 0 ≤ m; omega, SE.t, fun _ HF ex tF => ?_, fun hz => absurd (show m ≤ 1000 from hz) (by omega)⟩
    have SF := SE.ext ex tF
    have kF := kE.trans (TK.ext ex)
    refine ⟨rfl, ?_⟩
    refine ⟨_, rfl, iteT' (decide_eq_true rfl) ?_⟩
    refine ⟨_, rfl, _, rfl, len3, fun t6 n6 => ?_⟩
    have SG := SF.new (o := .tup [.str "room", .ref po, .int m]) n6
    have kG := kF.trans (TK.of (same_upd (o := .tup [.str "room", .ref po, .int m]) n6))
    refine ⟨_, rfl, .ref t6, .ref t, .room (wj m m) m, wpt st d, rfl, JO.wh kG upd_same, ⟨t, rfl, (kD.trans kG) _ _ ht4⟩, okO, by show 0 ≤ m; omega, fun bb HH hb sH => ?_⟩
    have nb : bb = false := by
      cases bb with
      | false => rfl
      | true =>
        exfalso
        have h1 := hb.mp rfl (st + d)
        have h2 := (wPk (s := st) (d := d) (a := m) (b := m) d0 d3 (by omega) (by omega)).at_
        have h3 : ld (sps (wj m m) (wpt st d)) (st + d) ≤ m := h1
        omega
    subst nb
    exact ⟨_, rfl, k _ (SG.same sH)⟩
end
end M12

namespace M12
open PySem PySem.Spec PyProof.Rows L2 SX Own Gd
open C8 (Cal pe_c pe_gc pe_mk Mak pss_cut)
/-! ### the stairs -/
theorem ld_perm {m : Int} {a b : List Sn} (h : a.Perm b) : ld a m = ld b m := by
  induction h with
  | nil => rfl
  | cons x _ ih => obtain ⟨s, e, d⟩ := x; simp only [ld, ih]
  | swap x y l => obtain ⟨s, e, d⟩ := x; obtain ⟨s2, e2, d2⟩ := y; simp only [ld]; omega
  | trans _ _ i1 i2 => exact i1.trans i2
def st1 (z : Int) (c : Int) : Sn := (c, c + z, 1)
theorem ld_ups {z : Int} (z0 : 0 < z) (s m : Int) : ∀ n : Nat, ld ((ups s n).map (st1 z)) m = cov s (s + n) (m - z + 1) (m + 1)
  | 0 => by simp only [ups, List.map_nil, ld]; unfold cov; omega
  | n + 1 => by
    simp only [ups, List.map_append, List.map_cons, List.map_nil]
    rw [ld_app, ld_ups z0 s m n]
    show _ + (if s + n ≤ m ∧ m < s + n + z then (1 : Int) else 0) = _
    unfold cov
    split <;> omega
theorem ups_len (s : Int) : ∀ n, (ups s n).length = n
  | 0 => rfl
  | n + 1 => by simp [ups, ups_len s n]
theorem ups_mem (s : Int) : ∀ (n : Nat) (c : Int), c ∈ ups s n ↔ s ≤ c ∧ c < s + n
  | 0, c => by simp [ups]
  | n + 1, c => by
    simp only [ups, List.mem_append, ups_mem s n c, List.mem_singleton]; omega
def stJ (z : Int) (n : Nat) : List Jb := (List.range n).map fun k => (k, z, 1)
def lgJ (z : Int) (at_ n : Nat) : List Jb := (List.range n).map fun k => (k, z + (if k = at_ then 1 else 0), 1)
theorem range_getD (l : List Int) : (List.range l.length).map (fun k => l.getD k 0) = l := by
  apply List.ext_getElem
  · rw [List.length_map, List.length_range]
  · intro i h1 h2
    rw [List.getElem_map, List.getElem_range, List.getD_eq_getElem?_getD, List.getElem?_eq_getElem h2]; rfl
theorem sps_st (z : Int) (pt : List Int) : sps (stJ z pt.length) pt = pt.map (st1 z) := by
  unfold sps stJ
  rw [List.map_map]
  conv => rhs; rw [← range_getD pt, List.map_map]
  exact List.map_congr_left fun k _ => rfl
theorem lg_ld (z : Int) (pt : List Int) (at_ : Nat) (z0 : 0 < z) (m : Int) : ∀ n, ld (sps (lgJ z at_ n) pt) m = ld (sps (stJ z n) pt) m + (if at_ < n ∧ m = pt.getD at_ 0 + z then 1 else 0)
  | 0 => by simp [lgJ, stJ, sps, ld]
  | n + 1 => by
    have e1 : sps (lgJ z at_ (n + 1)) pt = sps (lgJ z at_ n) pt ++ [(pt.getD n 0, pt.getD n 0 + (z + (if n = at_ then 1 else 0)), 1)] := by
      unfold sps lgJ; rw [List.range_succ, List.map_append, List.map_append]; rfl
    have e2 : sps (stJ z (n + 1)) pt = sps (stJ z n) pt ++ [(pt.getD n 0, pt.getD n 0 + z, 1)] := by
      unfold sps stJ; rw [List.range_succ, List.map_append, List.map_append]; rfl
    rw [e1, e2, ld_app, ld_app, lg_ld z pt at_ z0 m n]
    simp only []
    by_cases h : n = at_
    · subst h
      rw [if_pos rfl]
      repeat' split
      all_goals omega
    · rw [if_neg h]
      repeat' split
      all_goals omega
/-- what the stairs' point is -/
structure Stair (s : Int) (n : Nat) (z : Int) (pt : List Int) : Prop where
  pm : pt.Perm (ups s n)
  n3 : 3 ≤ n
  n6 : n ≤ 6
  z2 : 2 ≤ z
  zn : z < n
theorem Stair.len {s : Int} {n : Nat} {z : Int} {pt : List Int} (h : Stair s n z pt) : pt.length = n := by rw [h.pm.length_eq, ups_len]
theorem Stair.ld {s : Int} {n : Nat} {z : Int} {pt : List Int} (h : Stair s n z pt) (m : Int) : ld (sps (stJ z n) pt) m = cov s (s + n) (m - z + 1) (m + 1) := by
  have z2 := h.z2
  rw [← ld_ups (by omega), ← h.len, sps_st, ld_perm (h.pm.map _), h.len]
theorem Stair.pk {s : Int} {n : Nat} {z : Int} {pt : List Int} (h : Stair s n z pt) : Pk (sps (stJ z n) pt) (s + z - 1) z := by
  have z2 := h.z2; have zn := h.zn
  refine ⟨?_, fun x => ?_, fun x hx => ?_⟩ <;> rw [h.ld] <;> unfold cov <;> omega
theorem Stair.in_ {s : Int} {n : Nat} {z : Int} {pt : List Int} (h : Stair s n z pt) {k : Nat} (hk : k < n) : s ≤ pt.getD k 0 ∧ pt.getD k 0 < s + n := by
  have hk' : k < pt.length := by rw [h.len]; exact hk
  rw [List.getD_eq_getElem?_getD, List.getElem?_eq_getElem hk']
  exact (ups_mem s n _).mp (h.pm.mem_iff.mp (List.getElem_mem hk'))
theorem Stair.lpk {s : Int} {n : Nat} {z : Int} {pt : List Int} (h : Stair s n z pt) {k : Nat} (hk : k < n) (late : pt.getD k 0 < s + n - z) : Pk (sps (lgJ z k n) pt) (pt.getD k 0 + z) (z + 1) := by
  have z2 := h.z2; have zn := h.zn
  have b := h.in_ hk
  refine ⟨?_, fun x => ?_, fun x hx => ?_⟩ <;> rw [lg_ld z pt k (by omega), h.ld] <;> unfold cov
  · rw [if_pos ⟨hk, rfl⟩]; omega
  · split <;> omega
  · rw [if_neg (by omega)]; omega
theorem Stair.has {s : Int} {n : Nat} {z : Int} {pt : List Int} (h : Stair s n z pt) : ∃ k, k < n ∧ pt.getD k 0 < s + n - z := by
  have z2 := h.z2; have zn := h.zn; have n3 := h.n3
  have m : s ∈ pt := h.pm.mem_iff.mpr ((ups_mem s n s).mpr (by omega))
  obtain ⟨k, hk, e⟩ := List.mem_iff_getElem.mp m
  refine ⟨k, by rw [← h.len]; exact hk, ?_⟩
  rw [List.getD_eq_getElem?_getD, List.getElem?_eq_getElem hk]
  show pt[k] < _
  omega
theorem Stair.ok {s : Int} {n : Nat} {z : Int} {pt : List Int} (h : Stair s n z pt) {js : List Jb} {zz : Int} {e : Nat → Int} (hj : js = (List.range n).map fun k => (k, z + e k, 1)) (he : ∀ k, 0 ≤ e k ∧ e k ≤ 1) : WOk pt.length (.room js zz) := by
  have z2 := h.z2; have zn := h.zn; have n6 := h.n6; have n3 := h.n3
  have mj : ∀ j ∈ (Wh.room js zz).jobs, ∃ k, k < n ∧ j = (k, z + e k, 1) := fun j hjm => by
    have hjm' : j ∈ js := hjm
    rw [hj] at hjm'
    obtain ⟨k, hk, rfl⟩ := List.mem_map.mp hjm'
    exact ⟨k, List.mem_range.mp hk, rfl⟩
  have lj : (Wh.room js zz).jobs.length = n := by show js.length = n; rw [hj, List.length_map, List.length_range]
  refine ⟨fun j hjm => ?_, fun j hjm => ?_, fun j hjm => ?_, fun j hjm => ?_, fun j hjm => ?_, by omega, fun z => by rw [z] at lj; simp at lj; omega⟩ <;> obtain ⟨k, hk, rfl⟩ := mj j hjm
  · rw [h.len]; exact hk
  · have := he k; show 1 ≤ z + e k; omega
  · show (1 : Int) ≤ 1; decide
  · show (1 : Int) ≤ 1000000000; decide
  · have := he k; show z + e k ≤ 1000000000; omega
theorem Stair.ok1 {s : Int} {n : Nat} {z : Int} {pt : List Int} (h : Stair s n z pt) {zz : Int} : WOk pt.length (.room (stJ z n) zz) :=
  h.ok (e := fun _ => 0) (by unfold stJ; exact List.map_congr_left fun k _ => by rw [Int.add_zero]) fun _ => ⟨Int.le_refl _, by decide⟩
theorem Stair.ok2 {s : Int} {n : Nat} {z : Int} {pt : List Int} (h : Stair s n z pt) {zz : Int} (k : Nat) : WOk pt.length (.room (lgJ z k n) zz) :=
  h.ok (e := fun j => if j = k then 1 else 0) rfl fun _ => by split <;> decide
section
variable {P : Program} {w : World} {K : PySem.W.Frag} {mg : Str → Option Value} {base : Heap} {aT : Addr} {es : Array DictEntry} {nn : Nat}
abbrev s_Lstairs_right : Stmt := topS 46
abbrev n_Lstairs_right : List Str := ["heap", "many", "start", "size", "at", "point", "wish", "late", "longer", "k"]
theorem sc_Lstairs_right : FnScope n_Lstairs_right ["heap"] (defScope s_Lstairs_right) := ⟨rfl, rfl, rfl, by decide +kernel, rfl, by decide +kernel, by decide +kernel⟩
theorem ok_Lstairs_right {f CR : Addr} {T0 : List (Addr × Str)} {fd : FuncData} (F : Fun K "_law_stairs_right" "_law_stairs_right" s_Lstairs_right f fd) (T : Txt K mg w aT es nn) (c_Ldraw : Cal P w K mg base 1 "_law_draw" spDraw []) (c_Lpick : Cal P w K mg base 2 "_law_pick" spPick []) (c_Lmixed : Cal P w K mg base 2 "_law_mixed" spMixed []) (c_Lare_seats : CalG P w K mg base 4 "_law_are_seats" spAre) (x_seats : CalX P w K mg base 9 "seats" (spSeats T0 CR)) (c_peak : Cal P w K mg base 3 "peak" spPeak []) : FnG P w K mg base CX0 10 f fd ["heap"] (spTurn T0) := by
  refine fun_okG F sc_Lstairs_right (fun vs H Q E h => ?_) (fun cdv A outer s H vs Q E hgd hr h => ?_)
  · obtain ⟨h, q, rfl, _⟩ := h
    rfl
  · obtain ⟨h, q, rfl, a, tt, k⟩ := h
    refine ⟨_, (pss_cons (ps_asg (pe_tup (pa_cons (pe_op op_add pe_int (pe_c c_Ldraw hr (by decide) (by rfl) (pa_cons (pv 0) (pa_cons pe_int pa_nil)))) (pa_cons (pe_op op_sub (pe_c c_Ldraw hr (by decide) (by rfl) (pa_cons (pv 0) (pa_cons pe_int pa_nil))) pe_int) pa_nil))) (pg_tup rfl (pgs_cons (pg_name (i := 1) sc_Lstairs_right.nd rfl (.inr rfl)) (pgs_cons (pg_name (i := 2) sc_Lstairs_right.nd rfl (.inr rfl)) pgs_nil))))
      (pss_cut (ps_set (i := 3) sc_Lstairs_right.nd rfl (.inr rfl) (pe_op op_add pe_int (pe_c c_Ldraw hr (by decide) (by rfl) (pa_cons (pv 0) (pa_cons (pe_op op_sub (pv 1) pe_int) pa_nil)))))
      (pss_cut (ps_set (i := 5) sc_Lstairs_right.nd rfl (.inr rfl) (pe_callTy call_tuple_of (by rfl) T.b_tuple (by decide +kernel) (pa_cons (pe_c c_Lmixed hr (by decide) (by rfl) (pa_cons (pv 0) (pa_cons (pe_lc (own := [("at", 4)]) rfl sc_Lstairs_right.nd (pi_range1 (by rfl) T.b_range (pa_cons (pv 1) pa_nil)) (blkOk_by (N := n_Lstairs_right) (sc := defScope s_Lstairs_right) (by decide +kernel)) (fun _ _ _ _ _ => (pg_name (i := 4) sc_Lstairs_right.nd rfl (.inl rfl))) (fun _ _ _ _ _ => pts_nil) (fun _ _ _ _ _ => (pe_op op_add (pv 2) (pv 4)))) pa_nil))) pa_nil)))
      (pss_cut (ps_set (i := 6) sc_Lstairs_right.nd rfl (.inl rfl) (pe_tup (pa_cons pe_str (pa_cons (pe_callTy call_tuple_of (by rfl) T.b_tuple (by decide +kernel) (pa_cons (pe_lc (own := [("at", 4)]) rfl sc_Lstairs_right.nd (pi_range1 (by rfl) T.b_range (pa_cons (pv 1) pa_nil)) (blkOk_by (N := n_Lstairs_right) (sc := defScope s_Lstairs_right) (by decide +kernel)) (fun _ _ _ _ _ => (pg_name (i := 4) sc_Lstairs_right.nd rfl (.inl rfl))) (fun _ _ _ _ _ => pts_nil) (fun _ _ _ _ _ => (pe_tup (pa_cons (pv 4) (pa_cons (pv 3) (pa_cons pe_int pa_nil)))))) pa_nil)) (pa_cons (pv 3) pa_nil)))))
      (pss_cons (ps_if (PW.pt (pw_or (pt_not (pt_val (pe_cG hgd c_Lare_seats hr (by decide) (by rfl) (pa_cons (pv 6) (pa_cons (pv 5) (pa_cons (pe_x x_seats hr (by decide) (by rfl) (pa_cons (pv 6) (pa_cons (pv 5) pa_nil))) pa_nil)))))) (pw_or1 (pt_cmpR (op_neD hr.units) (pe_c c_peak hr (by decide) (by rfl) (pa_cons (pv 6) (pa_cons (pv 5) pa_nil))) (pe_tup (pa_cons (pe_op op_sub (pe_op op_add (pv 2) (pv 3)) pe_int) (pa_cons (pv 3) pa_nil))) (nomark _))))) (pss_one (ps_ret pe_bl)) pss_nil)
      (pss_cut (ps_setLc (i := 7) (own := [("at", 4)]) rfl sc_Lstairs_right.nd rfl rfl (sw_true rfl rfl rfl (by decide +kernel)) (pi_range1 (by rfl) T.b_range (pa_cons (pv 1) pa_nil)) (blkOk_by (N := n_Lstairs_right) (sc := defScope s_Lstairs_right) (by decide +kernel)) (fun _ _ _ _ _ => (pg_name (i := 4) sc_Lstairs_right.nd rfl (.inl rfl))) (fun _ _ _ _ _ => (pts_one (pt_cmpR op_lt (pe_ix (r := rIxT K) ix_tup (pv 5) (pv 4) (fun _ _ => rfl)) (pe_op op_sub (pe_op op_add (pv 2) (pv 1)) (pv 3)) (nomark _)))) (fun _ _ _ _ _ => (pv 4)))
      (pss_cut (ps_set (i := 4) sc_Lstairs_right.nd rfl (.inr rfl) (pe_c c_Lpick hr (by decide) (by rfl) (pa_cons (pv 0) (pa_cons (pv 7) pa_nil))))
      (pss_cut (ps_set (i := 8) sc_Lstairs_right.nd rfl (.inl rfl) (pe_callTy call_tuple_of (by rfl) T.b_tuple (by decide +kernel) (pa_cons (pe_lc (own := [("k", 9)]) rfl sc_Lstairs_right.nd (pi_range1 (by rfl) T.b_range (pa_cons (pv 1) pa_nil)) (blkOk_by (N := n_Lstairs_right) (sc := defScope s_Lstairs_right) (by decide +kernel)) (fun _ _ _ _ _ => (pg_name (i := 9) sc_Lstairs_right.nd rfl (.inl rfl))) (fun _ _ _ _ _ => pts_nil) (fun _ _ _ _ _ => (pe_tup (pa_cons (pv 9) (pa_cons (pe_op op_add (pv 3) (pe_callTy call_int1 (by rfl) T.b_int (by decide +kernel) (pa_cons (pe_cmpR op_eq (pv 9) (pv 4) (nomark _)) pa_nil))) (pa_cons pe_int pa_nil)))))) pa_nil)))
      (pss_one (ps_ret (pe_and (pe_cmpR op_isN (pe_x x_seats hr (by decide) (by rfl) (pa_cons (pe_tup (pa_cons pe_str (pa_cons (pv 8) (pa_cons (pv 3) pa_nil)))) (pa_cons (pv 5) pa_nil))) pe_non (nomark _)) (pe_one (pe_cmpR (op_eqD hr.units) (pe_c c_peak hr (by decide) (by rfl) (pa_cons (pe_tup (pa_cons pe_str (pa_cons (pv 8) (pa_cons (pv 3) pa_nil)))) (pa_cons (pv 5) pa_nil))) (pe_tup (pa_cons (pe_op op_add (pe_ix ix_tup (pv 5) (pv 4) (fun _ _ => rfl)) (pv 3)) (pa_cons (pe_op op_add (pv 3) pe_int) pa_nil))) (nomark _)))))))))))))), ?_⟩
    refine ⟨_, rfl, h, q, 4, rfl, a, by decide, by decide, fun d1 H1 d10 d14 a1 k1 => ⟨_, _, rfl, rfl, _, rfl, h, q, 99, rfl, a1, by decide, by decide, fun d2 H2 d20 d29 a2 k2 => ⟨_, _, rfl, rfl, len2, fun t nt => ?_⟩⟩⟩
    have S2 : Stp T0 h q H H2 := ((Stp.refl a tt).kp a1 k1).kp a2 k2
    have S3 := S2.new (o := .tup [.int (3 + d1), .int (d2 - 50)]) nt
    refine ⟨t, _, rfl, sq_tup upd_same, rfl, _, _, rfl, _, _, rfl, rfl, ?_⟩
    refine ⟨fun σ H' => ∃ (n : Nat) (z st : Int), σ = [some (.ref h), some (.int n), some (.int st), some (.int z), none, none, none, none, none, none] ∧ Stp T0 h q H H' ∧ 3 ≤ n ∧ n ≤ 6 ∧ 2 ≤ z ∧ z < n ∧ -50 ≤ st ∧ st < 49, ?_, fun σ H4 hM => ?_⟩
    · refine ⟨_, rfl, _, rfl, _, _, rfl, rfl, h, q, _, rfl, S3.a, by omega, by omega, fun d3 H5 d30 d39 a5 k5 => ⟨_, _, rfl, rfl, ?_⟩⟩
      refine ⟨(3 + d1).toNat, 2 + d3, d2 - 50, ?_, S3.kp a5 k5, by omega, by omega, by omega, by omega, by omega, by omega⟩
      rw [show (((3 + d1).toNat : Nat) : Int) = 3 + d1 by omega]
      rfl
    clear S2 S3 nt k1 k2 a1 a2 d10 d14 d20 d29
    obtain ⟨n, z, st, rfl, S4, n3, n6, z2, zn, st0, st9⟩ := hM
    refine ⟨fun σ H' => ∃ (y4 : Option V) (tp : Addr) (pt : List Int), σ = [some (.ref h), some (.int n), some (.int st), some (.int z), y4, some (.ref tp), none, none, none, none] ∧ Stp T0 h q H H' ∧ H' tp = some (tI pt) ∧ Stair st n z pt, ?_, fun σ H5 hM => ?_⟩
    · refine ⟨_, rfl, _, rfl, _, rfl, by omega, by omega, fun D nD => ?_⟩
      refine lc_range (lo := 0) (n := (n : Int).toNat) (fun i H' => H' D = some (tL (ups st i)) ∧ Same H4 H') ⟨upd_same, same_upd nD⟩ (fun i H5 hi hI => ?_) (fun H5 hI => ?_)
      · obtain ⟨hD, sm5⟩ := hI
        refine ⟨rfl, _, rfl, _, rfl, _, _, rfl, rfl, _, hD, by rw [List.length_map, ups_len]; exact small1000 (by omega), ?_, same_at sm5 nD⟩
        rw [upd_same, show ((0 : Int) + (i : Nat)) = (i : Int) by omega]
        show some (HO.lst _) = some (HO.lst ((ups st i ++ [st + i]).map V.int))
        rw [List.map_append]; rfl
      · obtain ⟨hD, sm5⟩ := hI
        rw [Int.toNat_natCast] at hD
        have S5 := S4.same sm5
        obtain ⟨D1, D2⟩ := S4.a.fresh nD
        refine ⟨h, q, D, ups st n, rfl, S5.a, hD, D1, D2, by rw [ups_len]; omega, fun r ys H6 pm a6 kp6 nr er => ?_⟩
        have S6 := S5.kp a6 kp6
        refine ⟨r, _, rfl, .inl ⟨sq_lst er, fun t nt => ?_⟩⟩
        exact ⟨_, t, ys, rfl, S6.new nt, upd_same, pm, n3, n6, z2, zn⟩
    obtain ⟨y4, tp, pt, rfl, S5, hpt, G⟩ := hM
    refine ⟨fun σ H' => ∃ (y4 : Option V) (tw : Addr), σ = [some (.ref h), some (.int n), some (.int st), some (.int z), y4, some (.ref tp), some (.ref tw), none, none, none] ∧ Stp T0 h q H H' ∧ TK H5 H' ∧ WhV H' (.ref tw) (.room (stJ z n) z), ?_, fun σ H6 hM => ?_⟩
    · refine ⟨_, rfl, _, rfl, by omega, by omega, fun D nD => ?_⟩
      refine lc_range (lo := 0) (n := (n : Int).toNat) (fun i H' => ∃ vs, H' D = some (.lst vs) ∧ All2 (JV H') vs (stJ z i) ∧ Same H5 H') ⟨[], upd_same, .nil, same_upd nD⟩ (fun i H6 hi hI => ?_) (fun H6 hI => ?_)
      · obtain ⟨vs, hD, fv, sm⟩ := hI
        rw [Int.toNat_natCast] at hi
        rw [show ((0 : Int) + (i : Nat)) = (i : Int) by omega]
        refine ⟨rfl, _, rfl, _, rfl, len3, fun t nt => ?_⟩
        have k3 := same_upd (o := .tup [.int (i : Int), .int z, .int 1]) nt
        have et : upd H6 t (.tup [.int (i : Int), .int z, .int 1]) t = some (.tup [.int (i : Int), .int z, .int 1]) := upd_same
        have hD3 := k3 _ _ hD
        generalize upd H6 t (.tup [.int (i : Int), .int z, .int 1]) = H7 at *
        refine ⟨_, hD3, by rw [fv.len]; unfold stJ; rw [List.length_map, List.length_range]; exact small1000 (by omega), vs ++ [.ref t], upd_same, ?_, same_at (sm.trans k3) nD⟩
        unfold stJ at fv ⊢
        rw [List.range_succ, List.map_append]
        exact jsTk (TK.put hD3) ((jsTk (TK.of k3) fv).app ⟨t, rfl, et⟩)
      · obtain ⟨vs, hD, fv, sm⟩ := hI
        rw [Int.toNat_natCast] at fv
        refine ⟨D, _, rfl, .inl ⟨sq_lst hD, fun t nt => ⟨_, rfl, len3, fun tw ntw => ?_⟩⟩⟩
        have k3 := same_upd (o := .tup vs) nt
        have k4 := same_upd (o := .tup [.str "room", .ref t, .int z]) ntw
        have s4 := (sm.trans k3).trans k4
        exact ⟨_, tw, rfl, S5.same s4, TK.of s4, tw, t, vs, rfl, upd_same, k4 _ _ upd_same, jsTk (TK.of (k3.trans k4)) fv⟩
    obtain ⟨y4', tw, rfl, S6, k6, hw⟩ := hM
    have hpt6 := k6 _ _ hpt
    have ok := G.ok1 (zz := z)
    have z0 : 0 ≤ (Wh.room (stJ z n) z).size := by show 0 ≤ z; omega
    have z9 : (Wh.room (stJ z n) z).size ≤ 1000 := by show z ≤ 1000; omega
    refine ⟨_, rfl, _, rfl, _, rfl, _, rfl, .ref tw, .ref tp, .room (stJ z n) z, pt, rfl, hw, ⟨tp, rfl, hpt6⟩, ok, z0, S6.t, fun hz => absurd hz (by omega), fun _ ord oo => ⟨fun e => absurd e ((seats_main ok z0 oo).2 G.pk.all), fun fd e p us H7 ex tt7 hp fv => ?_⟩⟩
    have S7 := S6.ext ex tt7
    have k7 := TK.ext ex
    refine ⟨.ref tw, .ref tp, p, us, fd, .room (stJ z n) z, pt, rfl, hw.tk k7, ⟨tp, rfl, k7 _ _ hpt6⟩, ok, z0, z9, hp, fv, ((seats_main ok z0 oo).1 fd e).1, fun H8 s8 => ?_⟩
    have S8 := S7.same s8
    have k8 := k7.trans (TK.of s8)
    refine ⟨_, rfl, iteF' (by decide) ?_⟩
    refine ⟨_, rfl, _, rfl, .ref tw, .ref tp, .room (stJ z n) z, pt, rfl, hw.tk k8, ⟨tp, rfl, k8 _ _ hpt6⟩, ok, fun pp pm pM H9 pk s9 hpp => ?_⟩
    obtain ⟨rfl, rfl⟩ := pk.one G.pk
    refine ⟨_, rfl, _, rfl, _, _, rfl, rfl, _, _, rfl, rfl, _, rfl, len2, fun u nu => ?_⟩
    have s10 := same_upd (o := .tup [.int (st + pM - 1), .int pM]) nu
    have S10 := (S8.same s9).same s10
    have k10 := k8.trans ((TK.of s9).trans (TK.of s10))
    refine ⟨_, _, dpI (a := [st + pM - 1, pM]) ⟨pp, rfl, s10 _ _ hpp⟩, dpI (a := [st + pM - 1, pM]) ⟨u, rfl, upd_same⟩, shpI _, shpI _, _, rfl, iteF' (by rw [eqvI, decide_eq_true rfl]; decide) ?_⟩
    have k5 := k6.trans k10
    generalize upd H9 u _ = HA at *
    refine ⟨fun σ H' => ∃ (y4 : Option V) (l : Addr) (ls : List Nat), σ = [some (.ref h), some (.int n), some (.int st), some (.int pM), y4, some (.ref tp), some (.ref tw), some (.ref l), none, none] ∧ Stp T0 h q H H' ∧ TK H5 H' ∧ H' l = some (tL (natI ls)) ∧ l ≠ h ∧ l ≠ q ∧ ls ≠ [] ∧ ls.length ≤ 6 ∧ ∀ k ∈ ls, k < n ∧ pt.getD k 0 < st + n - pM, ?_, fun σ HB hM => ?_⟩
    · refine ⟨_, rfl, _, rfl, by omega, by omega, fun D nD => ?_⟩
      refine lc_range (lo := 0) (n := (n : Int).toNat) (fun i H' => H' D = some (tL (natI ((List.range i).filter fun k => decide (pt.getD k 0 < st + n - pM)))) ∧ Same HA H') ⟨upd_same, same_upd nD⟩ (fun i HB hi hI => ?_) (fun HB hI => ?_)
      · obtain ⟨hD, sm5⟩ := hI
        rw [Int.toNat_natCast] at hi
        rw [show ((0 : Int) + (i : Nat)) = (i : Int) by omega]
        have li : i < pt.length := by rw [G.len]; exact hi
        refine ⟨rfl, _, rfl, _, rfl, tp, _, (i : Int), _, rfl, rfl, sq_tup (sm5 _ _ ((k10.trans (TK.refl _)) _ _ hpt6)), atI_nat (ptAt li), _, rfl, _, rfl, _, _, rfl, rfl, _, rfl, _, _, rfl, rfl, _, _, rfl, rfl, _, rfl, ite2 (fun h1 => ?_) (fun h1 => ?_)⟩
        · refine ⟨_, rfl, _, hD, by rw [List.length_map, natI_len]; exact small1000 (Nat.lt_of_le_of_lt (List.length_filter_le ..) (by rw [List.length_range]; omega)), ?_, same_at sm5 nD⟩
          rw [upd_same, filter_range_succ, if_pos h1, natI_app]
          unfold tL
          rw [List.map_append]; rfl
        · refine ⟨?_, sm5⟩
          rw [hD, filter_range_succ, if_neg h1, List.append_nil]
      · obtain ⟨hD, sm5⟩ := hI
        rw [Int.toNat_natCast] at hD
        have nHA : HA D = none := nD
        obtain ⟨D1, D2⟩ := S10.a.fresh nHA
        refine ⟨_, D, _, rfl, S10.same sm5, k5.trans (TK.of sm5), hD, D1, D2, ?_, ?_, fun k hk => ?_⟩
        · obtain ⟨k, hk, lt⟩ := G.has
          intro z
          have : k ∈ (List.range n).filter fun k => decide (pt.getD k 0 < st + n - pM) := List.mem_filter.mpr ⟨List.mem_range.mpr hk, decide_eq_true lt⟩
          rw [z] at this
          cases this
        · exact Nat.le_trans (List.length_filter_le ..) (by rw [List.length_range]; exact n6)
        · obtain ⟨h1, h2⟩ := List.mem_filter.mp hk
          exact ⟨List.mem_range.mp h1, of_decide_eq_true h2⟩
    obtain ⟨y5, l, ls, rfl, SB, kB, hl, l1, l2, lne, l6, lall⟩ := hM
    refine ⟨fun σ H' => ∃ (k : Nat), σ = [some (.ref h), some (.int n), some (.int st), some (.int pM), some (.int k), some (.ref tp), some (.ref tw), some (.ref l), none, none] ∧ Stp T0 h q H H' ∧ TK H5 H' ∧ k < n ∧ pt.getD k 0 < st + n - pM, ?_, fun σ HC hM => ?_⟩
    · refine ⟨_, rfl, _, rfl, h, q, l, _, rfl, SB.a, .inl ⟨hl, l1, l2⟩, (fun z => lne (by cases ls with | nil => rfl | cons x y => cases z)), by rw [List.length_map, natI_len]; omega, fun v HC mv aC kpC => ?_⟩
      obtain ⟨c, hc, rfl⟩ := List.mem_map.mp mv
      obtain ⟨k', hk', rfl⟩ := List.mem_map.mp hc
      exact ⟨k', rfl, SB.kp aC kpC, kB.trans (TK.kp kpC SB.a), lall k' hk'⟩
    obtain ⟨at_, rfl, SC, kC, la, lt⟩ := hM
    refine ⟨fun σ H' => ∃ (y9 : Option V) (tj : Addr), σ = [some (.ref h), some (.int n), some (.int st), some (.int pM), some (.int at_), some (.ref tp), some (.ref tw), some (.ref l), some (.ref tj), y9] ∧ Stp T0 h q H H' ∧ TK H5 H' ∧ JsV H' (.ref tj) (lgJ pM at_ n), ?_, fun σ HD hM => ?_⟩
    · refine ⟨_, rfl, _, rfl, by omega, by omega, fun D nD => ?_⟩
      refine lc_range (lo := 0) (n := (n : Int).toNat) (fun i H' => ∃ vs, H' D = some (.lst vs) ∧ All2 (JV H') vs (lgJ pM at_ i) ∧ Same HC H') ⟨[], upd_same, .nil, same_upd nD⟩ (fun i H6 hi hI => ?_) (fun H6 hI => ?_)
      · obtain ⟨vs, hD, fv, sm⟩ := hI
        rw [Int.toNat_natCast] at hi
        rw [show ((0 : Int) + (i : Nat)) = (i : Int) by omega]
        refine ⟨rfl, _, rfl, _, rfl, _, rfl, _, rfl, rfl, .inr ⟨_, rfl, _, _, rfl, rfl, len3, fun t nt => ?_⟩⟩
        have ev : (if decide (V.int (i : Nat) = V.int (at_ : Nat)) = true then (1 : Int) else 0) = if i = at_ then 1 else 0 := by
          by_cases e : i = at_
          · rw [if_pos e, if_pos (by rw [e]; exact decide_eq_true rfl)]
          · rw [if_neg e, if_neg (by intro z; have := of_decide_eq_true z; apply e; injection this with z1; omega)]
        rw [ev]
        have k3 := same_upd (o := .tup [.int (i : Int), .int (pM + if i = at_ then 1 else 0), .int 1]) nt
        have et : upd H6 t (.tup [.int (i : Int), .int (pM + if i = at_ then 1 else 0), .int 1]) t = some (.tup [.int (i : Int), .int (pM + if i = at_ then 1 else 0), .int 1]) := upd_same
        have hD3 := k3 _ _ hD
        generalize upd H6 t (.tup [.int (i : Int), .int (pM + if i = at_ then 1 else 0), .int 1]) = H7 at *
        refine ⟨_, hD3, by rw [fv.len]; unfold lgJ; rw [List.length_map, List.length_range]; exact small1000 (by omega), vs ++ [.ref t], upd_same, ?_, same_at (sm.trans k3) nD⟩
        unfold lgJ at fv ⊢
        rw [List.range_succ, List.map_append]
        exact jsTk (TK.put hD3) ((jsTk (TK.of k3) fv).app ⟨t, rfl, et⟩)
      · obtain ⟨vs, hD, fv, sm⟩ := hI
        rw [Int.toNat_natCast] at fv
        refine ⟨D, _, rfl, .inl ⟨sq_lst hD, fun t nt => ?_⟩⟩
        have k3 := same_upd (o := .tup vs) nt
        exact ⟨_, t, rfl, SC.same (sm.trans k3), kC.trans (TK.of (sm.trans k3)), t, vs, rfl, upd_same, jsTk (TK.of k3) fv⟩
    obtain ⟨y9, tj, rfl, SD, kD, hj⟩ := hM
    obtain ⟨_, us, e, htj, fv⟩ := hj
    cases e
    have okL := G.ok2 (zz := pM) at_
    refine ⟨_, rfl, _, rfl, len3, fun t1 n1 => ?_⟩
    have s1 := same_upd (o := .tup [.str "room", .ref tj, .int pM]) n1
    have SE := SD.same s1
    refine ⟨_, rfl, .ref t1, .ref tp, .room (lgJ pM at_ n) pM, pt, rfl, ⟨t1, tj, us, rfl, upd_same, s1 _ _ htj, jsTk (TK.of s1) fv⟩, ⟨tp, rfl, s1 _ _ (kD _ _ hpt)⟩, okL, z0, SE.t, fun hz => absurd hz (by show ¬ 1000 < pM; omega), fun _ ord oo => ⟨fun e HF ex tF => ?_, fun fd e => absurd ((seats_main okL z0 oo).1 fd e).2 (fun hh => ?_)⟩⟩
    · have SF := SE.ext ex tF
      have kF := (TK.of s1).trans (TK.ext ex)
      refine ⟨rfl, _, rfl, iteT' (decide_eq_true rfl) ?_⟩
      refine ⟨_, rfl, _, rfl, len3, fun t2 n2 => ?_⟩
      have s2 := same_upd (o := .tup [.str "room", .ref tj, .int pM]) n2
      have SG := SF.same s2
      have kG := kF.trans (TK.of s2)
      have hp5 := (kD.trans kG) _ _ hpt
      refine ⟨_, rfl, .ref t2, .ref tp, .room (lgJ pM at_ n) pM, pt, rfl, ⟨t2, tj, us, rfl, upd_same, kG _ _ htj, jsTk kG fv⟩, ⟨tp, rfl, hp5⟩, okL, fun pp pm pM' HH pk s9 hpp => ?_⟩
      obtain ⟨rfl, rfl⟩ := pk.one (G.lpk la lt)
      refine ⟨_, rfl, _, rfl, tp, _, (at_ : Int), _, rfl, rfl, sq_tup (s9 _ _ hp5), atI_nat (ptAt (by rw [G.len]; exact la)), _, rfl, _, _, rfl, rfl, _, rfl, _, _, rfl, rfl, len2, fun u nu => ?_⟩
      have s10 := same_upd (o := .tup [.int (pt.getD at_ 0 + pM), .int (pM + 1)]) nu
      refine ⟨_, _, dpI (a := [pt.getD at_ 0 + pM, pM + 1]) ⟨pp, rfl, s10 _ _ hpp⟩, dpI (a := [pt.getD at_ 0 + pM, pM + 1]) ⟨u, rfl, upd_same⟩, shpI _, shpI _, ?_⟩
      rw [eqvI, decide_eq_true rfl]
      exact k _ ((SG.same s9).same s10)
    · have h1 := hh (pt.getD at_ 0 + pM)
      have h2 := (G.lpk la lt).at_
      have h3 : ld (sps (lgJ pM at_ n) pt) (pt.getD at_ 0 + pM) ≤ pM := h1
      omega
end
end M12

namespace M12
open PySem PySem.Spec PyProof.Rows L2 SX Own Gd
open C8 (Cal pe_c pe_gc pe_mk Mak pss_cut)
/-! ### the law -/
theorem rev4_of {ws : List Value} (h : ws.reverse.length = 4) : ∃ a b c d, ws = [a, b, c, d] := by
  rw [List.length_reverse] at h
  match ws, h with
  | [a, b, c, d], _ => exact ⟨a, b, c, d, rfl⟩
theorem rev3_of {ws : List Value} (h : ws.reverse.length = 3) : ∃ a b c, ws = [a, b, c] := by
  rw [List.length_reverse] at h
  match ws, h with
  | [a, b, c], _ => exact ⟨a, b, c, rfl⟩
theorem rev2_of {ws : List Value} (h : ws.reverse.length = 2) : ∃ a b, ws = [a, b] := by
  rw [List.length_reverse] at h
  match ws, h with
  | [a, b], _ => exact ⟨a, b, rfl⟩
section
variable {P : Program} {w : World} {K : PySem.W.Frag} {mg : Str → Option Value} {base : Heap} {x p1 p2 p3 p4 : Str} {st : Stmt} {f : Addr} {fd : FuncData} {k : Nat} {sp : Sp} {CX : CXT}
theorem mkK2 (F : Fun K x x st f fd) (ok : FnOk P w K mg base CX k f fd [p1, p2] sp) (hC : CX = CX0 ∨ CX = L2.CX P w) (g : mg x = some (.ref f))
    (h : ∀ (kV doc pm : Value) (an : Option Addr) (cdv ct : Value) (a b : Value), bindArgs (PySem.W.fnOf x x (defArgs st) (defBody st) (defScope st) .none kV doc pm an cdv ct) ⟨[], [p2, p1].zip [a, b]⟩ = pure ([p1, p2].zip [b, a])) : CalK P w K mg base k x [p2, p1] List.reverse sp := by
  have kp := F.kp
  obtain ⟨oc, od, kV, doc, pm, an, cdv, ct, osl, rfl, lk, hc⟩ := F.ex
  refine ⟨⟨f, _, [p1, p2], List.reverse, CX, hC, ok, g, kp, fun s ws hl => ?_, fun _ _ r => r.reverse⟩⟩
  obtain ⟨a, b, rfl⟩ := rev2_of hl
  exact .of_eq (h kV doc pm an cdv ct a b)
theorem mkK3 (F : Fun K x x st f fd) (ok : FnOk P w K mg base CX k f fd [p1, p2, p3] sp) (hC : CX = CX0 ∨ CX = L2.CX P w) (g : mg x = some (.ref f))
    (h : ∀ (kV doc pm : Value) (an : Option Addr) (cdv ct : Value) (a b c : Value), bindArgs (PySem.W.fnOf x x (defArgs st) (defBody st) (defScope st) .none kV doc pm an cdv ct) ⟨[], [p3, p2, p1].zip [a, b, c]⟩ = pure ([p1, p2, p3].zip [c, b, a])) : CalK P w K mg base k x [p3, p2, p1] List.reverse sp := by
  have kp := F.kp
  obtain ⟨oc, od, kV, doc, pm, an, cdv, ct, osl, rfl, lk, hc⟩ := F.ex
  refine ⟨⟨f, _, [p1, p2, p3], List.reverse, CX, hC, ok, g, kp, fun s ws hl => ?_, fun _ _ r => r.reverse⟩⟩
  obtain ⟨a, b, c, rfl⟩ := rev3_of hl
  exact .of_eq (h kV doc pm an cdv ct a b c)
theorem mkK4 (F : Fun K x x st f fd) (ok : FnOk P w K mg base CX k f fd [p1, p2, p3, p4] sp) (hC : CX = CX0 ∨ CX = L2.CX P w) (g : mg x = some (.ref f))
    (h : ∀ (kV doc pm : Value) (an : Option Addr) (cdv ct : Value) (a b c d : Value), bindArgs (PySem.W.fnOf x x (defArgs st) (defBody st) (defScope st) .none kV doc pm an cdv ct) ⟨[], [p4, p3, p2, p1].zip [a, b, c, d]⟩ = pure ([p1, p2, p3, p4].zip [d, c, b, a])) : CalK P w K mg base k x [p4, p3, p2, p1] List.reverse sp := by
  have kp := F.kp
  obtain ⟨oc, od, kV, doc, pm, an, cdv, ct, osl, rfl, lk, hc⟩ := F.ex
  refine ⟨⟨f, _, [p1, p2, p3, p4], List.reverse, CX, hC, ok, g, kp, fun s ws hl => ?_, fun _ _ r => r.reverse⟩⟩
  obtain ⟨a, b, c, d, rfl⟩ := rev4_of hl
  exact .of_eq (h kV doc pm an cdv ct a b c d)
end
theorem seq_kpn {K : PySem.W.Frag} {a h q : Addr} {H H1 H' : Hp} {xs : List V} (x : SqL K H a xs) (s : Same H H1) (k : KpN h q H1 H') (n1 : H h = none) (n2 : H q = none) : SqL K H' a xs := by
  rcases x with (e | ⟨o, e⟩) | e
  · exact .inl (.inl (k _ _ (s _ _ e) (fun z => by rw [z, n1] at e; cases e) (fun z => by rw [z, n2] at e; cases e) (fun ps z => by cases z)))
  · exact .inl (.inr ⟨o, k _ _ (s _ _ e) (fun z => by rw [z, n1] at e; cases e) (fun z => by rw [z, n2] at e; cases e) (fun ps z => by cases z)⟩)
  · exact .inr e
theorem Stp.put {T0 : List (Addr × Str)} {h q D : Addr} {H H1 H2 : Hp} {xs ys : List V} (x : Stp T0 h q H H1) (n : H1 D = none) (y : Stp T0 h q H H2) (e : H2 D = some (.lst xs)) : Stp T0 h q H (upd H2 D (.lst ys)) := by
  obtain ⟨D1, D2⟩ := x.a.fresh n
  refine ⟨y.a.upd D1 D2, fun p hp => ?_, fun b o z n1 n2 n3 => ?_, y.tk.trans (TK.put e)⟩
  · obtain ⟨ps, h1, h2, h3⟩ := y.t p hp
    refine ⟨ps, by rw [upd_ne (Own.ne_of h1 e (by intro z; cases z))]; exact h1, h2, fun pos cv hc => ?_⟩
    obtain ⟨c, e1, e2⟩ := h3 pos cv hc
    exact ⟨c, e1, by rw [upd_ne (Own.ne_of e2 e codeO_lst)]; exact e2⟩
  · have := x.k b o z n1 n2 n3
    rw [upd_ne (fun u => by rw [u, n] at this; cases this)]
    exact y.k b o z n1 n2 n3
/-! ### a wish as data -/
def dJ (j : Jb) : PyData := .tuple [.int j.1, .int j.2.1, .int j.2.2]
def dB (j : Nat × Int) : PyData := .tuple [.int j.1, .int j.2]
def dWh : Wh → PyData
  | .bench js => .tuple [.str "bench", .tuple (js.map dB)]
  | .room js z => .tuple [.str "room", .tuple (js.map dJ), .int z]
theorem dpAll2 {α : Type} {K : PySem.W.Frag} {H : Hp} {R : V → α → Prop} {d : α → PyData} (h : ∀ v a, R v a → Dp K H v (d a)) : ∀ {us : List V} {as : List α}, All2 R us as → DpAll K H us (as.map d)
  | _, _, .nil => .nil
  | _, _, .cons g t => .cons (h _ _ g) (dpAll2 h t)
theorem dpWh {K : PySem.W.Frag} {H : Hp} {v : V} {x : Wh} (h : WhV H v x) : Dp K H v (dWh x) := by
  cases x with
  | bench js =>
    obtain ⟨p, q, us, rfl, f, g, a⟩ := h
    refine .tup (sq_tup f) (.cons (.str _) (.cons (.tup (sq_tup g) (dpAll2 (fun v j hj => ?_) a)) .nil))
    obtain ⟨t, rfl, e⟩ := hj
    exact .tup (sq_tup e) (.cons (.int _) (.cons (.int _) .nil))
  | room js z =>
    obtain ⟨p, q, us, rfl, f, g, a⟩ := h
    refine .tup (sq_tup f) (.cons (.str _) (.cons (.tup (sq_tup g) (dpAll2 (fun v j hj => ?_) a)) (.cons (.int _) .nil)))
    obtain ⟨t, rfl, e⟩ := hj
    exact .tup (sq_tup e) (.cons (.int _) (.cons (.int _) (.cons (.int _) .nil)))
theorem shWh {far : Int} {pt : List Int} {x : Wh} (wb : WB far pt x) (pb : PB far pt) : Shw 60 1000000 (dWh x) := by
  have few := wb.ok.few
  have small : ∀ j ∈ x.jobs, Sh12 j.1 ∧ Sh12 j.2.1 ∧ Sh12 j.2.2 := fun j hj => by
    have h1 := wb.ok.pl j hj; have h2 := wb.ok.ln j hj; have h3 := wb.ln j hj; have h4 := wb.ok.nd j hj; have h5 := wb.nd j hj
    have h6 := pb.few
    unfold Sh12; omega
  have z1 := wb.z1; have z9 := wb.z9
  have sS : ∀ s : String, (s : Str).cps.size ≤ 40 → (s : Str).cps.toList.all (fun c => decide (c < 16 ^ 8)) = true → Shw 2 2480 (.str (s : Str)) := fun s h1 h2 => (Shw.str h1 h2).mono (by decide) (by decide)
  cases x with
  | bench js =>
    have hj : ∀ j ∈ js, Shw 1 123 (dB j) := fun j hj => by
      have g := small (j.1, j.2, 1) (List.mem_map.mpr ⟨j, hj, rfl⟩)
      refine (Shw.tup (W := 40) (n := 3) (k := 0) (fun d hd => ?_) (by show 2 ≤ 3; decide)).mono (by decide) (by decide)
      simp only [List.mem_cons, List.not_mem_nil, or_false] at hd
      rcases hd with rfl | rfl
      · exact Shw.int g.1
      · exact Shw.int g.2.1
    have lj : js.length ≤ 20 := by have : (Wh.bench js).jobs.length = js.length := List.length_map ..; omega
    have hjs : Shw 2 2480 (.tuple (js.map dB)) := (Shw.tup (W := 123) (n := 20) (k := 1) (fun d hd => by
      obtain ⟨j, hjm, rfl⟩ := List.mem_map.mp hd
      exact hj j hjm) (by rw [List.length_map]; exact lj)).mono (by decide) (by decide)
    refine (Shw.tup (W := 2480) (n := 3) (k := 2) (fun d hd => ?_) (by show 2 ≤ 3; decide)).mono (by decide) (by decide)
    simp only [List.mem_cons, List.not_mem_nil, or_false] at hd
    rcases hd with rfl | rfl
    · exact sS "bench" (by decide +kernel) (by decide +kernel)
    · exact hjs
  | room js z =>
    have hj : ∀ j ∈ js, Shw 1 123 (dJ j) := fun j hj => by
      have g := small j hj
      refine (Shw.tup (W := 40) (n := 3) (k := 0) (fun d hd => ?_) (by show 3 ≤ 3; decide)).mono (by decide) (by decide)
      simp only [List.mem_cons, List.not_mem_nil, or_false] at hd
      rcases hd with rfl | rfl | rfl
      · exact Shw.int g.1
      · exact Shw.int g.2.1
      · exact Shw.int g.2.2
    have lj : js.length ≤ 20 := few
    have hjs : Shw 2 2480 (.tuple (js.map dJ)) := (Shw.tup (W := 123) (n := 20) (k := 1) (fun d hd => by
      obtain ⟨j, hjm, rfl⟩ := List.mem_map.mp hd
      exact hj j hjm) (by rw [List.length_map]; exact lj)).mono (by decide) (by decide)
    refine (Shw.tup (W := 2480) (n := 3) (k := 2) (fun d hd => ?_) (by show 3 ≤ 3; decide)).mono (by decide) (by decide)
    simp only [List.mem_cons, List.not_mem_nil, or_false] at hd
    rcases hd with rfl | rfl | rfl
    · exact sS "room" (by decide +kernel) (by decide +kernel)
    · exact hjs
    · refine (Shw.int ?_).mono (by decide) (by decide)
      have h1 : 1 ≤ z := z1
      have h2 : z ≤ 100 := z9
      omega
/-! ### the written wishes -/
theorem len4 {a b c d : V} : ([a, b, c, d] : List V).length ≤ sizeLine := by rw [sizeLine_eq]; show 4 ≤ _; omega
theorem len1 {a : V} : ([a] : List V).length ≤ sizeLine := by rw [sizeLine_eq]; show 1 ≤ _; omega
def fw : List Jb := [(0, 4, 1), (1, 2, 2), (3, 3, 1)]
def fp : List Int := [2, 1, 0, 5]
def bw : List (Nat × Int) := [(0, 2), (1, 5)]
theorem okF : WOk fp.length (.room fw 3) := ⟨by decide, by decide, by decide, by decide, by decide, by decide, fun e => by cases e⟩
theorem okB {s t : Int} : WOk [s, t].length (.bench bw) := ⟨by show ∀ j ∈ (Wh.bench bw).jobs, j.1 < 2; decide, by decide, by decide, by decide, by decide, by decide, fun e => by cases e⟩
theorem rnFw : rnF (sps fw fp) 2 3 = [0, 1] := by decide +kernel
theorem rnBw : rnF (sps (Wh.bench bw).jobs [6, 1]) 6 2 = [0] := by decide +kernel
theorem lbFw : lb (sps fw fp) 2 7 = 8 := by decide +kernel
theorem ldF (m : Int) : ld (sps fw fp) m = (if 2 ≤ m ∧ m < 6 then 1 else 0) + ((if 1 ≤ m ∧ m < 3 then 2 else 0) + ((if 5 ≤ m ∧ m < 8 then 1 else 0) + 0)) := rfl
theorem ldB (m : Int) : ld (sps (Wh.bench bw).jobs [5, 1]) m = (if 5 ≤ m ∧ m < 7 then 1 else 0) + ((if 1 ≤ m ∧ m < 6 then 1 else 0) + 0) := rfl
theorem pkFw : Pk (sps fw fp) 2 3 := by
  refine ⟨by decide +kernel, fun x => ?_, fun x hx => ?_⟩ <;> rw [ldF] <;> repeat' split
  all_goals omega
theorem pkBw : Pk (sps (Wh.bench bw).jobs [5, 1]) 5 2 := by
  refine ⟨by decide +kernel, fun x => ?_, fun x hx => ?_⟩ <;> rw [ldB] <;> repeat' split
  all_goals omega
theorem ordB {s : Int} (h : 1 < s) {ord : List Nat} (oo : OrdOk (stF (Wh.bench bw).jobs [s, 1]) (Wh.bench bw).jobs.length ord) : ord = [1, 0] := by
  have pm : ord.Perm [0, 1] := oo.pm
  have inc := oo.inc
  have ln := pm.length_eq
  match ord, ln with
  | [a, b], _ =>
    have ma := pm.mem_iff.mp (List.mem_cons_self .. : a ∈ [a, b])
    have mb := pm.mem_iff.mp (List.mem_cons_of_mem _ (List.mem_cons_self ..) : b ∈ [a, b])
    have nd : a ≠ b := by
      have := pm.nodup_iff.mpr (by decide)
      intro e; subst e; simp at this
    simp only [List.mem_cons, List.not_mem_nil, or_false] at ma mb
    have i1 := (List.pairwise_cons.mp inc).1 b (List.mem_cons_self ..)
    rcases ma with rfl | rfl <;> rcases mb with rfl | rfl
    · exact absurd rfl nd
    · exfalso
      have e0 : stF (Wh.bench bw).jobs [s, 1] 0 = s := rfl
      have e1 : stF (Wh.bench bw).jobs [s, 1] 1 = 1 := rfl
      rw [e0, e1] at i1; omega
    · rfl
    · exact absurd rfl nd
theorem seats6 : seatsF (.bench bw) [6, 1] [1, 0] = some [some [0], some [0]] := by decide +kernel
theorem seats5 : seatsF (.bench bw) [5, 1] [1, 0] = none := by decide +kernel
def dS : Option (List Nat) → PyData
  | none => .none
  | some S => dI (natI S)
theorem dpS {K : PySem.W.Frag} {H : Hp} (v : V) (o : Option (List Nat)) (h : SeatV H v o) : Dp K H v (dS o) := by
  cases o with
  | none => cases h; exact .non
  | some S => exact dpI h
theorem shS : SeqAt.shaped (.tuple [dS (some [0]), dS (some [0])]) = true := by decide +kernel
theorem bwV {H : Hp} {j1 j2 tj tw : Addr} (n1 : H j1 = none) (n2 : upd H j1 (.tup [.int 0, .int 2]) j2 = none) (nj : upd (upd H j1 (.tup [.int 0, .int 2])) j2 (.tup [.int 1, .int 5]) tj = none) (nw : upd (upd (upd H j1 (.tup [.int 0, .int 2])) j2 (.tup [.int 1, .int 5])) tj (.tup [.ref j1, .ref j2]) tw = none) :
    Same H (upd (upd (upd (upd H j1 (.tup [.int 0, .int 2])) j2 (.tup [.int 1, .int 5])) tj (.tup [.ref j1, .ref j2])) tw (.tup [.str "bench", .ref tj])) ∧ WhV (upd (upd (upd (upd H j1 (.tup [.int 0, .int 2])) j2 (.tup [.int 1, .int 5])) tj (.tup [.ref j1, .ref j2])) tw (.tup [.str "bench", .ref tj])) (.ref tw) (.bench bw) := by
  have k1 := same_upd (o := .tup [.int 0, .int 2]) n1
  have k2 := same_upd (o := .tup [.int 1, .int 5]) n2
  have k3 := same_upd (o := .tup [.ref j1, .ref j2]) nj
  have k4 := same_upd (o := .tup [.str "bench", .ref tj]) nw
  exact ⟨k1.trans (k2.trans (k3.trans k4)), tw, tj, _, rfl, upd_same, k4 _ _ upd_same, .cons ⟨j1, rfl, k4 _ _ (k3 _ _ (k2 _ _ upd_same))⟩ (.cons ⟨j2, rfl, k4 _ _ (k3 _ _ upd_same)⟩ .nil)⟩
section
variable {P : Program} {w : World} {K : PySem.W.Frag} {mg : Str → Option Value} {base : Heap} {aT : Addr} {es : Array DictEntry} {nn : Nat}
abbrev s_law : Stmt := topS 47
abbrev n_law : List Str := ["script", "heap", "turn", "size", "far", "point", "wish", "kept", "at"]
theorem sc_law : FnScope n_law ["script"] (defScope s_law) := ⟨rfl, rfl, rfl, by decide +kernel, rfl, by decide +kernel, by decide +kernel⟩
def spLaw (K : PySem.W.Frag) (T : List (Addr × Str)) : Sp := fun vs H Q _ => ∃ (a : Addr) (ns : List Int), vs = [.ref a] ∧ SqL K H a (ns.map V.int) ∧ ns.length ≤ 63 ∧ LamX.Tabs T H ∧ ∀ H', Q (.bl true) H'
structure LawC (P : Program) (w : World) (K : PySem.W.Frag) (mg : Str → Option Value) (base : Heap) (CR : Addr) (T : List (Addr × Str)) : Prop where
  heap : Cal P w K mg base 1 "_law_heap" (spHeap K) []
  draw : Cal P w K mg base 1 "_law_draw" spDraw []
  pick : Cal P w K mg base 2 "_law_pick" spPick []
  wish : Cal P w K mg base 4 "_law_wish" spWish []
  running_right : CalG P w K mg base 6 "_law_running_right" spPeakR
  peak_right : CalG P w K mg base 5 "_law_peak_right" spPeakR
  loads_right : CalG P w K mg base 6 "_law_loads_right" spLoadsR
  seats_right : CalG P w K mg base 10 "_law_seats_right" (spSeatsR T)
  stairs_right : CalG P w K mg base 10 "_law_stairs_right" (spTurn T)
  wide_right : CalG P w K mg base 12 "_law_wide_right" (spTurn T)
  running : Cal P w K mg base 3 "running" spRunning []
  load_between : Cal P w K mg base 3 "load_between" spLoad []
  peak : Cal P w K mg base 3 "peak" spPeak []
  seats : CalX P w K mg base 9 "seats" (spSeats T CR)
theorem ok_law {f CR : Addr} {T0 : List (Addr × Str)} {fd : FuncData} (F : Fun K "law" "law" s_law f fd) (T : Txt K mg w aT es nn) (LC : LawC P w K mg base CR T0) : FnG P w K mg base CX0 13 f fd ["script"] (spLaw K T0) := by
  obtain ⟨c_Lheap, c_Ldraw, c_Lpick, c_Lwish, c_Lrunning_right, c_Lpeak_right, c_Lloads_right, c_Lseats_right, c_Lstairs_right, c_Lwide_right, c_running, c_load_between, c_peak, x_seats⟩ := LC
  refine fun_okG F sc_law (fun vs H Q E h => ?_) (fun cdv A outer s0 H vs Q E hgd hr h => ?_)
  · obtain ⟨a, ns, rfl, _⟩ := h
    rfl
  · obtain ⟨a, ns, rfl, hS, hlen, ht, fin⟩ := h
    refine ⟨_, (pss_cons (ps_set (i := 1) sc_law.nd rfl (.inr rfl) (pe_c c_Lheap hr (by decide) (by rfl) (pa_cons (pv 0) pa_nil)))
      (pss_cut (ps_for PassesOwn.never rfl (pi_range1 (by rfl) T.b_range (pa_cons (pe_op op_add pe_int (pe_callTy call_int1 (by rfl) T.b_int (by decide +kernel) (pa_cons (pe_cmpR op_gt (pe_callB call_len_seq (by rfl) T.b_len (by decide +kernel) (pa_cons (pv 0) pa_nil)) pe_int (nomark _)) pa_nil))) pa_nil)) (pg_name (i := 2) sc_law.nd rfl (.inl rfl)) (pss_cons (ps_asg (pe_tup (pa_cons (pe_op op_add pe_int (pe_c c_Ldraw hr (by decide) (by rfl) (pa_cons (pv 1) (pa_cons pe_int pa_nil)))) (pa_cons (pe_c c_Lpick hr (by decide) (by rfl) (pa_cons (pv 1) (pa_cons (pe_lst (pa_cons pe_int (pa_cons pe_int (pa_cons (pe_un un_neg pe_int) (pa_cons pe_int (pa_cons (pe_un un_neg pe_int) pa_nil)))))) pa_nil))) pa_nil))) (pg_tup rfl (pgs_cons (pg_name (i := 3) sc_law.nd rfl (.inl rfl)) (pgs_cons (pg_name (i := 4) sc_law.nd rfl (.inr rfl)) pgs_nil))))
        (pss_cut (ps_set (i := 5) sc_law.nd rfl (.inl rfl) (pe_callTy call_tuple_of (by rfl) T.b_tuple (by decide +kernel) (pa_cons (pe_lc (own := [("at", 8)]) rfl sc_law.nd (pi_range1 (by rfl) T.b_range (pa_cons (pv 3) pa_nil)) (blkOk_by (N := n_law) (sc := defScope s_law) (by decide +kernel)) (fun _ _ _ _ _ => (pg_name (i := 8) sc_law.nd rfl (.inl rfl))) (fun _ _ _ _ _ => pts_nil) (fun _ _ _ _ _ => (pe_op op_add (pv 4) (pe_c c_Ldraw hr (by decide) (by rfl) (pa_cons (pv 1) (pa_cons (pe_c c_Lpick hr (by decide) (by rfl) (pa_cons (pv 1) (pa_cons (pe_lst (pa_cons pe_int (pa_cons pe_int pa_nil))) pa_nil))) pa_nil)))))) pa_nil)))
        (pss_cut (ps_set (i := 6) sc_law.nd rfl (.inl rfl) (pe_c c_Lwish hr (by decide) (by rfl) (pa_cons (pv 1) (pa_cons (pv 5) pa_nil))))
        (pss_cons (ps_set (i := 7) sc_law.nd rfl (.inl rfl) (pe_callB (call_showX hgd hr.units) (by rfl) T.b_repr (by decide +kernel) (pa_cons (pv 6) pa_nil)))
        (pss_cons (ps_if (PW.pt (pw_or (pt_not (pt_val (pe_cG hgd c_Lrunning_right hr (by decide) (by rfl) (pa_cons (pv 6) (pa_cons (pv 5) pa_nil))))) (pw_or1 (pt_not (pt_val (pe_cG hgd c_Lpeak_right hr (by decide) (by rfl) (pa_cons (pv 6) (pa_cons (pv 5) pa_nil)))))))) (pss_one (ps_ret pe_bl)) pss_nil)
        (pss_cons (ps_if (PW.pt (pw_or (pt_not (pt_val (pe_cG hgd c_Lloads_right hr (by decide) (by rfl) (pa_cons (pv 1) (pa_cons (pv 6) (pa_cons (pv 5) pa_nil)))))) (pw_or (pt_not (pt_val (pe_cG hgd c_Lseats_right hr (by decide) (by rfl) (pa_cons (pv 6) (pa_cons (pv 5) pa_nil))))) (pw_or1 (pt_cmpR op_ne (pe_callB (call_showX hgd hr.units) (by rfl) T.b_repr (by decide +kernel) (pa_cons (pv 6) pa_nil)) (pv 7) (nomark _)))))) (pss_one (ps_ret pe_bl)) pss_nil)
        (pss_one (ps_if (pt_not (pt_val (pe_cG hgd c_Lstairs_right hr (by decide) (by rfl) (pa_cons (pv 1) pa_nil)))) (pss_one (ps_ret pe_bl)) pss_nil)))))))))
      (pss_cut (ps_if (PW.pt (pw_and (pt_cmpR op_gt (pe_callB call_len_seq (by rfl) T.b_len (by decide +kernel) (pa_cons (pv 0) pa_nil)) pe_int (nomark _)) (pw_and1 (pt_not (pt_val (pe_cG hgd c_Lwide_right hr (by decide) (by rfl) (pa_cons (pv 1) pa_nil))))))) (pss_one (ps_ret pe_bl)) pss_nil)
      (pss_cut (ps_set (i := 6) sc_law.nd rfl (.inl rfl) (pe_tup (pa_cons pe_str (pa_cons (pe_tup (pa_cons (pe_tup (pa_cons pe_int (pa_cons pe_int (pa_cons pe_int pa_nil)))) (pa_cons (pe_tup (pa_cons pe_int (pa_cons pe_int (pa_cons pe_int pa_nil)))) (pa_cons (pe_tup (pa_cons pe_int (pa_cons pe_int (pa_cons pe_int pa_nil)))) pa_nil)))) (pa_cons pe_int pa_nil)))))
      (pss_cons (ps_if (PW.pt (pw_or (pt_cmpR (op_neD hr.units) (pe_c c_running hr (by decide) (by rfl) (pa_cons (pv 6) (pa_cons (pe_tup (pa_cons pe_int (pa_cons pe_int (pa_cons pe_int (pa_cons pe_int pa_nil))))) (pa_cons pe_int pa_nil)))) (pe_tup (pa_cons pe_int (pa_cons pe_int pa_nil))) (nomark _)) (pw_or (pt_cmpR (op_neD hr.units) (pe_c c_peak hr (by decide) (by rfl) (pa_cons (pv 6) (pa_cons (pe_tup (pa_cons pe_int (pa_cons pe_int (pa_cons pe_int (pa_cons pe_int pa_nil))))) pa_nil))) (pe_tup (pa_cons pe_int (pa_cons pe_int pa_nil))) (nomark _)) (pw_or1 (pt_cmpR op_ne (pe_c c_load_between hr (by decide) (by rfl) (pa_cons (pv 6) (pa_cons (pe_tup (pa_cons pe_int (pa_cons pe_int (pa_cons pe_int (pa_cons pe_int pa_nil))))) (pa_cons pe_int (pa_cons pe_int pa_nil))))) pe_int (nomark _)))))) (pss_one (ps_ret pe_bl)) pss_nil)
      (pss_cons (ps_if (PW.pt (pw_or (pt_cmpR (op_neD hr.units) (pe_x x_seats hr (by decide) (by rfl) (pa_cons (pe_tup (pa_cons pe_str (pa_cons (pe_tup (pa_cons (pe_tup (pa_cons pe_int (pa_cons pe_int pa_nil))) (pa_cons (pe_tup (pa_cons pe_int (pa_cons pe_int pa_nil))) pa_nil))) pa_nil))) (pa_cons (pe_tup (pa_cons pe_int (pa_cons pe_int pa_nil))) pa_nil))) (pe_tup (pa_cons (pe_tup (pa_cons pe_int pa_nil)) (pa_cons (pe_tup (pa_cons pe_int pa_nil)) pa_nil))) (nomark _)) (pw_or1 (pt_cmpR op_notN (pe_x x_seats hr (by decide) (by rfl) (pa_cons (pe_tup (pa_cons pe_str (pa_cons (pe_tup (pa_cons (pe_tup (pa_cons pe_int (pa_cons pe_int pa_nil))) (pa_cons (pe_tup (pa_cons pe_int (pa_cons pe_int pa_nil))) pa_nil))) pa_nil))) (pa_cons (pe_tup (pa_cons pe_int (pa_cons pe_int pa_nil))) pa_nil))) pe_non (nomark _))))) (pss_one (ps_ret pe_bl)) pss_nil)
      (pss_one (ps_ret (pe_and (pe_cmpR (op_eqD hr.units) (pe_c c_peak hr (by decide) (by rfl) (pa_cons (pe_tup (pa_cons pe_str (pa_cons (pe_tup (pa_cons (pe_tup (pa_cons pe_int (pa_cons pe_int pa_nil))) (pa_cons (pe_tup (pa_cons pe_int (pa_cons pe_int pa_nil))) pa_nil))) pa_nil))) (pa_cons (pe_tup (pa_cons pe_int (pa_cons pe_int pa_nil))) pa_nil))) (pe_tup (pa_cons pe_int (pa_cons pe_int pa_nil))) (nomark _)) (pe_one (pe_cmpR (op_eqD hr.units) (pe_c c_running hr (by decide) (by rfl) (pa_cons (pe_tup (pa_cons pe_str (pa_cons (pe_tup (pa_cons (pe_tup (pa_cons pe_int (pa_cons pe_int pa_nil))) (pa_cons (pe_tup (pa_cons pe_int (pa_cons pe_int pa_nil))) pa_nil))) pa_nil))) (pa_cons (pe_tup (pa_cons pe_int (pa_cons pe_int pa_nil))) (pa_cons pe_int pa_nil)))) (pe_tup (pa_cons pe_int pa_nil)) (nomark _)))))))))))), ?_⟩
    refine ⟨_, rfl, a, ns, rfl, hS, hlen, fun H1 h q s1 nh nq a1 => ?_⟩
    have ht1 : LamX.Tabs T0 H1 := fun p hp => (ht p hp).ext s1
    refine ⟨fun σ H' => ∃ y2 y3 y4 y5 y6 y7 y8, σ = [some (.ref a), some (.ref h), y2, y3, y4, y5, y6, y7, y8] ∧ Stp T0 h q H1 H', ?_, fun σ H2 hM => ?_⟩
    · refine ⟨_, rfl, a, _, rfl, .inl (seq_kpn hS s1 (Stp.refl a1 ht1).k nh nq), _, _, rfl, rfl, .inr ⟨_, rfl, _, _, rfl, rfl, _, rfl, ?_, ?_, for_range (lo := 0) (fun i σ H' => ∃ y2 y3 y4 y5 y6 y7 y8, σ = [some (.ref a), some (.ref h), y2, y3, y4, y5, y6, y7, y8] ∧ Stp T0 h q H1 H')
        ⟨none, none, none, none, none, none, none, rfl, Stp.refl a1 ht1⟩ (fun i σ H2 _ hI => ?_) (fun σ H2 hI => hI)⟩⟩
      · split <;> omega
      · split <;> omega
      · obtain ⟨y2, y3, y4, y5, y6, y7, y8, rfl, S2⟩ := hI
        refine ⟨_, rfl, h, q, 8, rfl, S2.a, by decide, by decide, fun d1 H3 d10 d18 a3 k3 => ⟨_, _, rfl, rfl, _, rfl, ?_⟩⟩
        refine ⟨_, rfl, _, rfl, by show 5 ≤ sizeLine; rw [sizeLine_eq]; omega, fun l nl => ?_⟩
        have S3 := S2.kp a3 k3
        have S4 := S3.new (o := .lst [.int 0, .int 0, .int (-5), .int 700000, .int (-900000)]) nl
        obtain ⟨l1, l2⟩ := a3.fresh nl
        refine ⟨h, q, l, _, rfl, S4.a, .inl ⟨upd_same, l1, l2⟩, by simp, by show 5 ≤ 1000; decide, fun v H5 mv a5 kp5 => ?_⟩
        obtain ⟨far, rfl, fo⟩ : ∃ g : Int, v = .int g ∧ FarOk g := by
          simp only [List.mem_cons, List.not_mem_nil, or_false] at mv
          unfold FarOk
          rcases mv with rfl | rfl | rfl | rfl | rfl <;> exact ⟨_, rfl, by decide⟩
        have S5 := S4.kp a5 kp5
        refine ⟨len2, fun t nt => ?_⟩
        have S6 := S5.new (o := .tup [.int (2 + d1), .int far]) nt
        refine ⟨t, _, rfl, sq_tup upd_same, rfl, _, _, rfl, _, _, rfl, rfl, ?_⟩
        generalize upd H5 t _ = H6 at *
        refine ⟨fun σ H' => ∃ (y3 y6 y7 y8 : Option V) (tp : Addr) (pt : List Int), σ = [some (.ref a), some (.ref h), some (.int (0 + (i : Int))), y3, some (.int far), some (.ref tp), y6, y7, y8] ∧ Stp T0 h q H1 H' ∧ H' tp = some (tI pt) ∧ PB far pt, ?_, fun σ H7 hM => ?_⟩
        · refine ⟨_, rfl, _, rfl, by omega, by omega, fun D nD => ?_⟩
          obtain ⟨D1, D2⟩ := S6.a.fresh nD
          have S6' := S6.new (o := .lst []) nD
          refine lc_range (lo := 0) (n := (2 + d1).toNat) (fun i H' => ∃ cs : List Int, H' D = some (tL cs) ∧ cs.length = i ∧ (∀ c ∈ cs, far ≤ c ∧ c < far + 9) ∧ Stp T0 h q H1 H') ⟨[], upd_same, rfl, (fun c hc => by cases hc), S6'⟩ (fun i H7 hi hI => ?_) (fun H7 hI => ?_)
          · obtain ⟨cs, hD, cl, cb, S7⟩ := hI
            refine ⟨rfl, _, rfl, _, rfl, _, rfl, len2, fun l nl => ?_⟩
            obtain ⟨l1, l2⟩ := S7.a.fresh nl
            have Q8 := (Stp.refl S7.a S7.t).new (o := .lst [.int 4, .int 9]) nl
            have S8 := S7.new (o := .lst [.int 4, .int 9]) nl
            refine ⟨h, q, l, _, rfl, S8.a, .inl ⟨upd_same, l1, l2⟩, by simp, by show 2 ≤ 1000; decide, fun v H9 mv a9 kp9 => ?_⟩
            obtain ⟨m, rfl, m1, m9⟩ : ∃ g : Int, v = .int g ∧ 1 ≤ g ∧ g ≤ 9 := by
              simp only [List.mem_cons, List.not_mem_nil, or_false] at mv
              rcases mv with rfl | rfl <;> exact ⟨_, rfl, by decide, by decide⟩
            have S9 := S8.kp a9 kp9
            have Q9 := Q8.kp a9 kp9
            refine ⟨h, q, m, rfl, a9, by omega, by omega, fun d H10 d0 d9 a10 kp10 => ?_⟩
            have S10 := S9.kp a10 kp10
            have hD10 := (Q9.kp a10 kp10).k D _ hD D1 D2 (fun ps z => by cases z)
            refine ⟨_, _, rfl, rfl, _, hD10, by rw [List.length_map]; exact small1000 (by omega), cs ++ [far + d], ?_, by rw [List.length_append, cl]; rfl, fun c hc => ?_, S6.put nD S10 hD10⟩
            · rw [upd_same]; unfold tL; rw [List.map_append]; rfl
            · rcases List.mem_append.mp hc with z | z
              · exact cb c z
              · rw [List.mem_singleton.mp z]; omega
          · obtain ⟨cs, hD, cl, cb, S7⟩ := hI
            refine ⟨D, _, rfl, .inl ⟨sq_lst hD, fun t nt => ?_⟩⟩
            exact ⟨_, _, _, _, t, cs, rfl, S7.new nt, upd_same, cb, by omega, by omega⟩
        obtain ⟨y3, y6, y7, y8, tp, pt, rfl, S7, hpt, pb⟩ := hM
        refine ⟨fun σ H' => ∃ (y3 y7 y8 : Option V) (v : V) (x : Wh), σ = [some (.ref a), some (.ref h), some (.int (0 + (i : Int))), y3, some (.int far), some (.ref tp), some v, y7, y8] ∧ Stp T0 h q H1 H' ∧ H' tp = some (tI pt) ∧ WhV H' v x ∧ WB far pt x, ?_, fun σ H8 hM => ?_⟩
        · refine ⟨_, rfl, _, rfl, h, q, .ref tp, pt, far, rfl, S7.a, ⟨tp, rfl, hpt⟩, pb, fun v x H8 hv wb a8 kp8 => ?_⟩
          exact ⟨_, _, _, v, x, rfl, S7.kp a8 kp8, (TK.kp kp8 S7.a) _ _ hpt, hv, wb⟩
        obtain ⟨y3, y7, y8, v, x, rfl, S8, hpt8, hv, wb⟩ := hM
        have sh := shWh wb pb
        have vo : ∃ a, v = .ref a := by
          cases x with
          | bench js => obtain ⟨p, _, _, e, _⟩ := hv; exact ⟨p, e⟩
          | room js z => obtain ⟨p, _, _, e, _⟩ := hv; exact ⟨p, e⟩
        refine ⟨_, rfl, _, _, rfl, dpWh hv, sh, .inl vo, ?_⟩
        refine ⟨_, rfl, _, rfl, _, _, _, _, far, rfl, hv, ⟨tp, rfl, hpt8⟩, wb, pb, fo, fun H9 s9 => ?_⟩
        have S9 := S8.same s9
        have k9 := TK.of s9
        refine ⟨_, rfl, iteF' (by decide) ?_⟩
        refine ⟨_, rfl, _, rfl, _, _, _, _, far, rfl, hv.tk k9, ⟨tp, rfl, k9 _ _ hpt8⟩, wb, pb, fo, fun H10 s10 => ?_⟩
        have S10 := S9.same s10
        have k10 := k9.trans (TK.of s10)
        refine ⟨_, rfl, iteF' (by decide) ?_⟩
        refine ⟨_, rfl, _, rfl, _, rfl, h, q, _, _, _, _, far, rfl, S10.a, hv.tk k10, ⟨tp, rfl, k10 _ _ hpt8⟩, wb, pb, fo, fun H11 a11 kp11 => ?_⟩
        have S11 := S10.kp a11 kp11
        have k11 := k10.trans (TK.kp kp11 S10.a)
        refine ⟨_, rfl, iteF' (by decide) ?_⟩
        have z1 := wb.z1; have z9 := wb.z9
        refine ⟨_, rfl, _, rfl, _, _, _, _, rfl, hv.tk k11, ⟨tp, rfl, k11 _ _ hpt8⟩, wb.ok, by omega, by omega, S11.t, fun H12 ex tt12 => ?_⟩
        have S12 := S11.ext ex tt12
        have k12 := k11.trans (TK.ext ex)
        refine ⟨_, rfl, iteF' (by decide) ?_⟩
        refine ⟨_, rfl, _, _, rfl, dpWh (hv.tk k12), sh, .inl vo, ?_⟩
        refine ⟨_, rfl, rfl, _, rfl, iteF' (neS rfl) ?_⟩
        refine ⟨_, rfl, h, q, rfl, S12.a, S12.t, fun H13 S13 => ⟨_, rfl, iteF' (by decide) ?_⟩⟩
        exact ⟨_, _, _, _, _, _, _, rfl, S12.trans S13⟩
    obtain ⟨y2, y3, y4, y5, y6, y7, y8, rfl, S2⟩ := hM
    refine ⟨fun σ H' => ∃ y2 y3 y4 y5 y6 y7 y8, σ = [some (.ref a), some (.ref h), y2, y3, y4, y5, y6, y7, y8] ∧ Stp T0 h q H1 H', ?_, fun σ H3 hM => ?_⟩
    · refine ⟨_, rfl, a, _, rfl, .inl (seq_kpn hS s1 S2.k nh nq), _, _, rfl, rfl, _, rfl, ite2 (fun _ => ?_) (fun _ => ?_)⟩
      · refine ⟨_, rfl, h, q, rfl, S2.a, S2.t, fun H3 S3 => ⟨_, rfl, iteF' (by decide) ?_⟩⟩
        exact ⟨_, _, _, _, _, _, _, rfl, S2.trans S3⟩
      · exact ⟨_, _, _, _, _, _, _, rfl, S2⟩
    clear S2
    obtain ⟨y2, y3, y4, y5, y6, y7, y8, rfl, S3⟩ := hM
    refine ⟨fun σ H' => ∃ tw, σ = [some (.ref a), some (.ref h), y2, y3, y4, y5, some (.ref tw), y7, y8] ∧ Stp T0 h q H1 H' ∧ WhV H' (.ref tw) (.room fw 3), ?_, fun σ H4 hM => ?_⟩
    · refine ⟨len3, fun j1 n1 => ⟨len3, fun j2 n2 => ⟨len3, fun j3 n3 => ⟨len3, fun tj nj => ⟨len3, fun tw nw => ?_⟩⟩⟩⟩⟩
      have k1 := same_upd (o := .tup [.int 0, .int 4, .int 1]) n1
      have k2 := same_upd (o := .tup [.int 1, .int 2, .int 2]) n2
      have k3 := same_upd (o := .tup [.int 3, .int 3, .int 1]) n3
      have k4 := same_upd (o := .tup [.ref j1, .ref j2, .ref j3]) nj
      have k5 := same_upd (o := .tup [.str "room", .ref tj, .int 3]) nw
      exact ⟨tw, rfl, S3.same (k1.trans (k2.trans (k3.trans (k4.trans k5)))), tw, tj, _, rfl, upd_same, k5 _ _ upd_same, .cons ⟨j1, rfl, k5 _ _ (k4 _ _ (k3 _ _ (k2 _ _ upd_same)))⟩ (.cons ⟨j2, rfl, k5 _ _ (k4 _ _ (k3 _ _ upd_same))⟩ (.cons ⟨j3, rfl, k5 _ _ (k4 _ _ upd_same)⟩ .nil))⟩
    obtain ⟨tw, rfl, S4, hw⟩ := hM
    refine ⟨_, rfl, len4, fun p1 np1 => ?_⟩
    have s1 := same_upd (o := .tup [.int 2, .int 1, .int 0, .int 5]) np1
    refine ⟨.ref tw, .ref p1, .room fw 3, fp, 2, rfl, hw.tk (TK.of s1), ⟨p1, rfl, upd_same⟩, okF, fun r1 H5 s5 hr1 => ?_⟩
    have hr1 : H5 r1 = some (tI [0, 1]) := by rw [← rnFw]; exact hr1
    have s15 := s1.trans s5
    refine ⟨len2, fun t1 nt1 => ?_⟩
    have s6 := same_upd (o := .tup [.int 0, .int 1]) nt1
    refine ⟨_, _, dpI (a := [0, 1]) ⟨r1, rfl, s6 _ _ hr1⟩, dpI (a := [0, 1]) ⟨t1, rfl, upd_same⟩, shpI _, shpI _, _, rfl, iteF' (by rw [eqvI]; decide) ?_⟩
    have sA := s15.trans s6
    generalize upd H5 t1 _ = HA at *
    refine ⟨_, rfl, len4, fun p2 np2 => ?_⟩
    have s7 := same_upd (o := .tup [.int 2, .int 1, .int 0, .int 5]) np2
    refine ⟨.ref tw, .ref p2, .room fw 3, fp, rfl, hw.tk (TK.of (sA.trans s7)), ⟨p2, rfl, upd_same⟩, okF, fun r2 pm pM H6 pk s8 hr2 => ?_⟩
    obtain ⟨rfl, rfl⟩ := pk.one pkFw
    refine ⟨len2, fun t2 nt2 => ?_⟩
    have s9 := same_upd (o := .tup [.int 2, .int 3]) nt2
    refine ⟨_, _, dpI (a := [2, 3]) ⟨r2, rfl, s9 _ _ hr2⟩, dpI (a := [2, 3]) ⟨t2, rfl, upd_same⟩, shpI _, shpI _, _, rfl, iteF' (by rw [eqvI]; decide) ?_⟩
    have sB := sA.trans (s7.trans (s8.trans s9))
    generalize upd H6 t2 _ = HB at *
    refine ⟨_, rfl, len4, fun p3 np3 => ?_⟩
    have s10 := same_upd (o := .tup [.int 2, .int 1, .int 0, .int 5]) np3
    refine ⟨.ref tw, .ref p3, .room fw 3, fp, 2, 7, rfl, hw.tk (TK.of (sB.trans s10)), ⟨p3, rfl, upd_same⟩, okF, fun H7 s11 => ?_⟩
    refine ⟨rfl, _, rfl, iteF' (neS (by show V.int (lb (sps fw fp) 2 7) = V.int 8; rw [lbFw])) ?_⟩
    have SC := S4.same (sB.trans (s10.trans s11))
    clear sA sB s6 s7 s8 s9 s1 s15
    -- the seats of two
    refine ⟨len2, fun j1 n1 => ⟨len2, fun j2 n2 => ⟨len2, fun tj nj => ⟨len2, fun tb nb => ⟨len2, fun p4 np4 => ?_⟩⟩⟩⟩⟩
    obtain ⟨sb, hb⟩ := bwV n1 n2 nj nb
    generalize upd (upd (upd (upd H7 j1 _) j2 _) tj _) tb _ = HD at *
    have s12 := same_upd (o := .tup [.int 6, .int 1]) np4
    have SE := SC.same (sb.trans s12)
    refine ⟨.ref tb, .ref p4, .bench bw, [6, 1], rfl, hb.tk (TK.of s12), ⟨p4, rfl, upd_same⟩, okB, by decide, SE.t, fun hz => absurd hz (by decide), fun _ ord oo => ?_⟩
    have eo := ordB (by decide) oo
    rw [eo, seats6]
    refine ⟨(fun e => by cases e), fun fd e r3 us HE ex ttE hr3 fv => ?_⟩
    cases e
    have SF := SE.ext ex ttE
    refine ⟨len1, fun a1 na1 => ⟨len1, fun a2 na2 => ⟨len2, fun t3 nt3 => ?_⟩⟩⟩
    have k1 := same_upd (o := .tup [.int 0]) na1
    have k2 := same_upd (o := .tup [.int 0]) na2
    have k3 := same_upd (o := .tup [.ref a1, .ref a2]) nt3
    have kk := k1.trans (k2.trans k3)
    have SG := SF.same kk
    refine ⟨_, _, .tup (sq_tup (kk _ _ hr3)) (dpAll2 dpS (fv.mono fun _ _ g => SeatV.tk g (TK.of kk))), .tup (sq_tup upd_same) (.cons (dpI (a := [0]) ⟨a1, rfl, k3 _ _ (k2 _ _ upd_same)⟩) (.cons (dpI (a := [0]) ⟨a2, rfl, k3 _ _ upd_same⟩) .nil)), shS, shS, _, rfl, iteF' ?_ ?_⟩
    · intro z
      rw [show (PyData.tuple (List.map dS [some [0], some [0]])).eqv (PyData.tuple [dI [0], dI [0]]) = true from SeqAt.eqv_refl _ (SeqAt.canLay_of_shaped shS)] at z
      cases z
    generalize upd (upd (upd HE a1 _) a2 _) t3 _ = HG at *
    refine ⟨len2, fun i1 m1 => ⟨len2, fun i2 m2 => ⟨len2, fun ti mj => ⟨len2, fun td md => ⟨len2, fun p5 np5 => ?_⟩⟩⟩⟩⟩
    obtain ⟨sd, hd⟩ := bwV m1 m2 mj md
    generalize upd (upd (upd (upd HG i1 _) i2 _) ti _) td _ = HI at *
    have s13 := same_upd (o := .tup [.int 5, .int 1]) np5
    have SI' := SG.same (sd.trans s13)
    refine ⟨.ref td, .ref p5, .bench bw, [5, 1], rfl, hd.tk (TK.of s13), ⟨p5, rfl, upd_same⟩, okB, by decide, SI'.t, fun hz => absurd hz (by decide), fun _ ord2 oo2 => ?_⟩
    have eo2 := ordB (by decide) oo2
    rw [eo2, seats5]
    refine ⟨fun _ HJ ex2 ttJ => ?_, fun fd e => by cases e⟩
    refine ⟨rfl, _, rfl, iteF' (neS rfl) ?_⟩
    -- the peak and the running of two
    refine ⟨len2, fun g1 e1 => ⟨len2, fun g2 e2 => ⟨len2, fun tg ej => ⟨len2, fun tk eb => ⟨len2, fun p6 np6 => ?_⟩⟩⟩⟩⟩
    obtain ⟨sg, hg⟩ := bwV e1 e2 ej eb
    generalize upd (upd (upd (upd HJ g1 _) g2 _) tg _) tk _ = HK at *
    have s14 := same_upd (o := .tup [.int 5, .int 1]) np6
    refine ⟨.ref tk, .ref p6, .bench bw, [5, 1], rfl, hg.tk (TK.of s14), ⟨p6, rfl, upd_same⟩, okB, fun r4 pm pM HL pk s15 hr4 => ?_⟩
    obtain ⟨rfl, rfl⟩ := pk.one pkBw
    refine ⟨len2, fun t4 nt4 => ?_⟩
    have s16 := same_upd (o := .tup [.int 5, .int 2]) nt4
    refine ⟨_, _, dpI (a := [5, 2]) ⟨r4, rfl, s16 _ _ hr4⟩, dpI (a := [5, 2]) ⟨t4, rfl, upd_same⟩, shpI _, shpI _, _, rfl, iteT' (by rw [eqvI]; decide) ?_⟩
    generalize upd HL t4 _ = HM at *
    refine ⟨len2, fun c1 f1 => ⟨len2, fun c2 f2 => ⟨len2, fun tc fj => ⟨len2, fun te fb => ⟨len2, fun p7 np7 => ?_⟩⟩⟩⟩⟩
    obtain ⟨sc, hc⟩ := bwV f1 f2 fj fb
    generalize upd (upd (upd (upd HM c1 _) c2 _) tc _) te _ = HN at *
    have s17 := same_upd (o := .tup [.int 6, .int 1]) np7
    refine ⟨.ref te, .ref p7, .bench bw, [6, 1], 6, rfl, hc.tk (TK.of s17), ⟨p7, rfl, upd_same⟩, okB, fun r5 HO s18 hr5 => ?_⟩
    have hr5 : HO r5 = some (tI [0]) := by rw [← rnBw]; exact hr5
    refine ⟨len1, fun t5 nt5 => ?_⟩
    have s19 := same_upd (o := .tup [.int 0]) nt5
    refine ⟨_, _, dpI (a := [0]) ⟨r5, rfl, s19 _ _ hr5⟩, dpI (a := [0]) ⟨t5, rfl, upd_same⟩, shpI _, shpI _, ?_⟩
    rw [eqvI, decide_eq_true rfl]
    exact fin _
end
end M12

namespace M12
open PySem PySem.W PySem.Calls PyProof.Rows Own Gd
open L2 (FnScope defArgs defBody defScope FunD Fun Binds OexC XfC xfB xfB_ok FnOk CX0 Sp Cls NoAttr Mk)
section
open PySem.Spec L2 SX
abbrev s_iR : Stmt := inS 3 0
theorem sc_iR : FnScope ["self", "word"] ["self", "word"] (defScope s_iR) := ⟨rfl, rfl, rfl, by decide +kernel, rfl, by decide +kernel, by decide +kernel⟩
theorem ok_iR {P : Program} {w : World} {K : PySem.W.Frag} {mg : PySem.Str → Option Value} {base : Heap} {f : Addr} {fd : FuncData} (F : Fun K "__init__" "Refused.__init__" s_iR f fd) : FnOk P w K mg base CX0 1 f fd ["self", "word"] (spInit K) := by
  refine F.ok sc_iR (fun vs H Q E h => ?_) (fun cdv A outer s H vs Q E hr h => ?_)
  · obtain ⟨a, C, y, rfl, _⟩ := h
    rfl
  · obtain ⟨a, C, y, rfl, T, no, e, q⟩ := h
    refine ⟨_, pss_one (ps_ost (pv 0) (pv 1)), ?_⟩
    exact ⟨_, rfl, _, rfl, a, C, rfl, T, no, .inl ⟨e, fun d n ne => q d n ne⟩⟩
end
def d_size_of : He.DefD := ⟨("size_of", none), "size_of", "size_of", defArgs s_size_of, defBody s_size_of, defScope s_size_of, [], []⟩
def d_jobs_of : He.DefD := ⟨("jobs_of", none), "jobs_of", "jobs_of", defArgs s_jobs_of, defBody s_jobs_of, defScope s_jobs_of, [], []⟩
def d_job_spans : He.DefD := ⟨("job_spans", none), "job_spans", "job_spans", defArgs s_job_spans, defBody s_job_spans, defScope s_job_spans, [], []⟩
def d_needs_over_time : He.DefD := ⟨("needs_over_time", none), "needs_over_time", "needs_over_time", defArgs s_needs_over_time, defBody s_needs_over_time, defScope s_needs_over_time, [], []⟩
def d_running : He.DefD := ⟨("running", none), "running", "running", defArgs s_running, defBody s_running, defScope s_running, [], []⟩
def d_load_between : He.DefD := ⟨("load_between", none), "load_between", "load_between", defArgs s_load_between, defBody s_load_between, defScope s_load_between, [], []⟩
def d_peak : He.DefD := ⟨("peak", none), "peak", "peak", defArgs s_peak, defBody s_peak, defScope s_peak, [], []⟩
def d_keeps_jobs : He.DefD := ⟨("_keeps_jobs", none), "_keeps_jobs", "_keeps_jobs", defArgs s_keeps_jobs, defBody s_keeps_jobs, defScope s_keeps_jobs, [], []⟩
def d_keeps_wish : He.DefD := ⟨("keeps_wish", none), "keeps_wish", "keeps_wish", defArgs s_keeps_wish, defBody s_keeps_wish, defScope s_keeps_wish, [], []⟩
def d_seats : He.DefD := ⟨("seats", none), "seats", "seats", defArgs s_seats, defBody s_seats, defScope s_seats, [], []⟩
def d_Ldraw : He.DefD := ⟨("_law_draw", none), "_law_draw", "_law_draw", defArgs s_Ldraw, defBody s_Ldraw, defScope s_Ldraw, [], []⟩
def d_Lheap : He.DefD := ⟨("_law_heap", none), "_law_heap", "_law_heap", defArgs s_Lheap, defBody s_Lheap, defScope s_Lheap, [], []⟩
def d_Lpick : He.DefD := ⟨("_law_pick", none), "_law_pick", "_law_pick", defArgs s_Lpick, defBody s_Lpick, defScope s_Lpick, [], []⟩
def d_Lmixed : He.DefD := ⟨("_law_mixed", none), "_law_mixed", "_law_mixed", defArgs s_Lmixed, defBody s_Lmixed, defScope s_Lmixed, [], []⟩
def d_Lsize : He.DefD := ⟨("_law_size", none), "_law_size", "_law_size", defArgs s_Lsize, defBody s_Lsize, defScope s_Lsize, [], []⟩
def d_Ljobs : He.DefD := ⟨("_law_jobs", none), "_law_jobs", "_law_jobs", defArgs s_Ljobs, defBody s_Ljobs, defScope s_Ljobs, [], []⟩
def d_Lruns : He.DefD := ⟨("_law_runs", none), "_law_runs", "_law_runs", defArgs s_Lruns, defBody s_Lruns, defScope s_Lruns, [], []⟩
def d_Lmoments : He.DefD := ⟨("_law_moments", none), "_law_moments", "_law_moments", defArgs s_Lmoments, defBody s_Lmoments, defScope s_Lmoments, [], []⟩
def d_Lneeds : He.DefD := ⟨("_law_needs", none), "_law_needs", "_law_needs", defArgs s_Lneeds, defBody s_Lneeds, defScope s_Lneeds, [], []⟩
def d_Lmost : He.DefD := ⟨("_law_most", none), "_law_most", "_law_most", defArgs s_Lmost, defBody s_Lmost, defScope s_Lmost, [], []⟩
def d_Lwish : He.DefD := ⟨("_law_wish", none), "_law_wish", "_law_wish", defArgs s_Lwish, defBody s_Lwish, defScope s_Lwish, [], []⟩
def d_Lpeak_right : He.DefD := ⟨("_law_peak_right", none), "_law_peak_right", "_law_peak_right", defArgs s_Lpeak_right, defBody s_Lpeak_right, defScope s_Lpeak_right, [], []⟩
def d_Lrunning_right : He.DefD := ⟨("_law_running_right", none), "_law_running_right", "_law_running_right", defArgs s_Lrunning_right, defBody s_Lrunning_right, defScope s_Lrunning_right, [], []⟩
def d_Lloads_right : He.DefD := ⟨("_law_loads_right", none), "_law_loads_right", "_law_loads_right", defArgs s_Lloads_right, defBody s_Lloads_right, defScope s_Lloads_right, [], []⟩
def d_Lare_seats : He.DefD := ⟨("_law_are_seats", none), "_law_are_seats", "_law_are_seats", defArgs s_Lare_seats, defBody s_Lare_seats, defScope s_Lare_seats, [], []⟩
def d_Lseats_right : He.DefD := ⟨("_law_seats_right", none), "_law_seats_right", "_law_seats_right", defArgs s_Lseats_right, defBody s_Lseats_right, defScope s_Lseats_right, [], []⟩
def d_Lheard : He.DefD := ⟨("_law_heard", none), "_law_heard", "_law_heard", defArgs s_Lheard, defBody s_Lheard, defScope s_Lheard, [], []⟩
def d_Lwide_right : He.DefD := ⟨("_law_wide_right", none), "_law_wide_right", "_law_wide_right", defArgs s_Lwide_right, defBody s_Lwide_right, defScope s_Lwide_right, [], []⟩
def d_Lstairs_right : He.DefD := ⟨("_law_stairs_right", none), "_law_stairs_right", "_law_stairs_right", defArgs s_Lstairs_right, defBody s_Lstairs_right, defScope s_Lstairs_right, [], []⟩
def d_law : He.DefD := ⟨("law", none), "law", "law", defArgs s_law, defBody s_law, defScope s_law, [], []⟩
def d_iR : He.DefD := ⟨("Refused", some "__init__"), "__init__", "Refused.__init__", defArgs s_iR, defBody s_iR, defScope s_iR, [], []⟩
def fnL0 : List He.DefD := [d_size_of, d_jobs_of, d_job_spans, d_needs_over_time, d_running, d_load_between, d_peak, d_keeps_jobs, d_keeps_wish, d_seats]
def fnL1 : List He.DefD := [d_Ldraw, d_Lheap, d_Lpick, d_Lmixed, d_Lsize, d_Ljobs, d_Lruns, d_Lmoments, d_Lneeds, d_Lmost]
def fnL2 : List He.DefD := [d_Lwish, d_Lpeak_right, d_Lrunning_right, d_Lloads_right, d_Lare_seats, d_Lseats_right, d_Lheard, d_Lwide_right, d_Lstairs_right, d_law]
def fnL3 : List He.DefD := [d_iR]
def fnL : List He.DefD := fnL0 ++ fnL1 ++ fnL2 ++ fnL3
def faL0 : List He.Fa := [.glo "size_of", .glo "jobs_of", .glo "job_spans", .glo "needs_over_time", .glo "running", .glo "load_between", .glo "peak", .glo "_keeps_jobs", .glo "keeps_wish", .glo "seats"]
def faL1 : List He.Fa := [.glo "_law_draw", .glo "_law_heap", .glo "_law_pick", .glo "_law_mixed", .glo "_law_size", .glo "_law_jobs", .glo "_law_runs", .glo "_law_moments", .glo "_law_needs", .glo "_law_most"]
def faL2 : List He.Fa := [.glo "_law_wish", .glo "_law_peak_right", .glo "_law_running_right", .glo "_law_loads_right", .glo "_law_are_seats", .glo "_law_seats_right", .glo "_law_heard", .glo "_law_wide_right", .glo "_law_stairs_right", .glo "law"]
def faL3 : List He.Fa := [.glo "Refused", .glo "InvalidPoint", .glo "KEEPERS", .int "MOST_SEATS" 1000, .exm "Refused" "Refused" true, .free "len", .free "range", .free "int", .free "abs", .free "all"]
def faL4 : List He.Fa := [.free "sum", .free "repr", .free "tuple", .free "bool", .free "list", .free "set", .free "any", .free "enumerate", .free "isinstance", .free "min"]
def faL5 : List He.Fa := [.free "max", .free "sorted", .free "ValueError"]
def faL : List He.Fa := faL0 ++ faL1 ++ faL2 ++ faL3 ++ faL4 ++ faL5
abbrev pD : He.Defn := ("seats", none)
def tfL : List He.Defn := [pD]
def tsL : List He.Tab := [(fun K => He.ga K "KEEPERS", ["sum", "unlike", "table", "either", "bench", "room", "round"])]
def isB (K : Frag) (C : Addr) : Bool := (clsIn K C).isSome && (He.eqO (findIn K (.ref C) "__getattribute__") (some (some (.builtin "BaseException.__getattribute__"))) && (He.eqO (findIn K (.ref C) "__getattr__") (some none) && (decide (subIn K (.ref C) (.type "BaseException") = some true) && (He.eqO (findIn K (.ref C) "__class__") (some (some (.builtin "object.__class__"))) &&
  (He.eqO (specialIn K (.builtin "object.__class__") "__get__") (some (some (.builtin "getset_descriptor.__get__"))) && (decide (takesIn K (.builtin "object.__class__") = some true) && decide (mroIn K C (.type "object") = some true)))))))
theorem isB_ok {K : Frag} {C : Addr} (h : isB K C = true) : IsE K C := by
  obtain ⟨h1, h⟩ := He.ba h
  obtain ⟨h2, h⟩ := He.ba h
  obtain ⟨h3, h⟩ := He.ba h
  obtain ⟨h4, h⟩ := He.ba h
  obtain ⟨h5, h⟩ := He.ba h
  obtain ⟨h6, h⟩ := He.ba h
  obtain ⟨h7, h8⟩ := He.ba h
  exact ⟨h1, He.eqO_ok h2, He.eqO_ok h3, of_decide_eq_true h4, He.eqO_ok h5, He.eqO_ok h6, of_decide_eq_true h7, of_decide_eq_true h8⟩
def exB (K : Frag) : Bool := clsB K "Refused" && (He.valsB K (He.ga K "KEEPERS") [("bench", .glo "_keeps_jobs"), ("room", .glo "_keeps_jobs")] && (isB K (He.ga K "Refused") && (decide (kitOne K (.ref (He.ga K "Refused")) (.type "ValueError") = some true) && decide (kitOne K (.ref (He.ga K "Refused")) (.ref (He.ga K "InvalidPoint")) = some false))))
open C8 (Cal Mak)
section
variable {P : Program} {w : World} {K : Frag} {mg : PySem.Str → Option Value} {base : Heap} {x : PySem.Str} {j k : Nat} {sp : Sp} {ks : List PySem.Str} {gV : List L2.V → List L2.V}
theorem calM (c : Cal P w K mg base j x sp []) (h : j ≤ k) : Cal P w K mg base k x sp [] := by
  obtain ⟨f, fd, ps, ds, F, r⟩ := c
  exact ⟨f, fd, ps, ds, F.mono h, r⟩
theorem calxM (c : CalX P w K mg base j x sp) (h : j ≤ k) : CalX P w K mg base k x sp := by
  obtain ⟨f, fd, ps, F, r⟩ := c.ex
  exact ⟨⟨f, fd, ps, F.mono h, r⟩⟩
theorem calgM (c : CalG P w K mg base j x sp) (h : j ≤ k) : CalG P w K mg base k x sp := by
  obtain ⟨f, fd, ps, F, r⟩ := c.ex
  exact ⟨⟨f, fd, ps, F.mono h, r⟩⟩
theorem calkM (c : CalK P w K mg base j x ks gV sp) (h : j ≤ k) : CalK P w K mg base k x ks gV sp := by
  obtain ⟨f, fd, ps, gu, CX, hC, F, r⟩ := c.ex
  exact ⟨⟨f, fd, ps, gu, CX, hC, F.mono h, r⟩⟩
end
theorem facts {l : OpenLaw} {w : World} {K : Frag} {h : Heap} {mg : PySem.Str → Option Value} {fa : Addr} (X : K.In h) (G : h.Ns mainGlobals mg) (hfa : mg ("law" : PySem.Str) = some (.ref fa)) (c : He.SaysX faL fnL tsL tfL exB w h K) : LawG l w K 13 63 "script" mg fa h := by
  have cd := c.t.d
  obtain ⟨x2, x⟩ := He.ba c.more
  obtain ⟨x4, x⟩ := He.ba x
  obtain ⟨x5, x⟩ := He.ba x
  obtain ⟨x6, x7⟩ := He.ba x
  have x6 := of_decide_eq_true x6
  have x7 := of_decide_eq_true x7
  have g_size_of : mg "size_of" = some (.ref (He.ga K "size_of")) := He.glo_ok X G (cd.fact 0 (f := .glo "size_of") rfl)
  obtain ⟨fd_size_of, W_size_of⟩ := cd.def_ 0 (d := d_size_of) rfl
  have F_size_of : Fun K "size_of" "size_of" s_size_of (He.ga K "size_of") fd_size_of := funOf W_size_of
  have D_size_of : Df K mg "size_of" s_size_of ["wish"] := ⟨_, _, F_size_of, g_size_of, F_size_of.binds fun _ _ _ _ _ _ us hl => match us, hl with | [_], _ => rfl⟩
  have g_jobs_of : mg "jobs_of" = some (.ref (He.ga K "jobs_of")) := He.glo_ok X G (cd.fact 1 (f := .glo "jobs_of") rfl)
  obtain ⟨fd_jobs_of, W_jobs_of⟩ := cd.def_ 1 (d := d_jobs_of) rfl
  have F_jobs_of : Fun K "jobs_of" "jobs_of" s_jobs_of (He.ga K "jobs_of") fd_jobs_of := funOf W_jobs_of
  have D_jobs_of : Df K mg "jobs_of" s_jobs_of ["wish"] := ⟨_, _, F_jobs_of, g_jobs_of, F_jobs_of.binds fun _ _ _ _ _ _ us hl => match us, hl with | [_], _ => rfl⟩
  have g_job_spans : mg "job_spans" = some (.ref (He.ga K "job_spans")) := He.glo_ok X G (cd.fact 2 (f := .glo "job_spans") rfl)
  obtain ⟨fd_job_spans, W_job_spans⟩ := cd.def_ 2 (d := d_job_spans) rfl
  have F_job_spans : Fun K "job_spans" "job_spans" s_job_spans (He.ga K "job_spans") fd_job_spans := funOf W_job_spans
  have D_job_spans : Df K mg "job_spans" s_job_spans ["wish", "point"] := ⟨_, _, F_job_spans, g_job_spans, F_job_spans.binds fun _ _ _ _ _ _ us hl => match us, hl with | [_, _], _ => rfl⟩
  have g_needs_over_time : mg "needs_over_time" = some (.ref (He.ga K "needs_over_time")) := He.glo_ok X G (cd.fact 3 (f := .glo "needs_over_time") rfl)
  obtain ⟨fd_needs_over_time, W_needs_over_time⟩ := cd.def_ 3 (d := d_needs_over_time) rfl
  have F_needs_over_time : Fun K "needs_over_time" "needs_over_time" s_needs_over_time (He.ga K "needs_over_time") fd_needs_over_time := funOf W_needs_over_time
  have D_needs_over_time : Df K mg "needs_over_time" s_needs_over_time ["spans"] := ⟨_, _, F_needs_over_time, g_needs_over_time, F_needs_over_time.binds fun _ _ _ _ _ _ us hl => match us, hl with | [_], _ => rfl⟩
  have g_running : mg "running" = some (.ref (He.ga K "running")) := He.glo_ok X G (cd.fact 4 (f := .glo "running") rfl)
  obtain ⟨fd_running, W_running⟩ := cd.def_ 4 (d := d_running) rfl
  have F_running : Fun K "running" "running" s_running (He.ga K "running") fd_running := funOf W_running
  have D_running : Df K mg "running" s_running ["wish", "point", "moment"] := ⟨_, _, F_running, g_running, F_running.binds fun _ _ _ _ _ _ us hl => match us, hl with | [_, _, _], _ => rfl⟩
  have g_load_between : mg "load_between" = some (.ref (He.ga K "load_between")) := He.glo_ok X G (cd.fact 5 (f := .glo "load_between") rfl)
  obtain ⟨fd_load_between, W_load_between⟩ := cd.def_ 5 (d := d_load_between) rfl
  have F_load_between : Fun K "load_between" "load_between" s_load_between (He.ga K "load_between") fd_load_between := funOf W_load_between
  have D_load_between : Df K mg "load_between" s_load_between ["wish", "point", "first", "last"] := ⟨_, _, F_load_between, g_load_between, F_load_between.binds fun _ _ _ _ _ _ us hl => match us, hl with | [_, _, _, _], _ => rfl⟩
  have g_peak : mg "peak" = some (.ref (He.ga K "peak")) := He.glo_ok X G (cd.fact 6 (f := .glo "peak") rfl)
  obtain ⟨fd_peak, W_peak⟩ := cd.def_ 6 (d := d_peak) rfl
  have F_peak : Fun K "peak" "peak" s_peak (He.ga K "peak") fd_peak := funOf W_peak
  have D_peak : Df K mg "peak" s_peak ["wish", "point"] := ⟨_, _, F_peak, g_peak, F_peak.binds fun _ _ _ _ _ _ us hl => match us, hl with | [_, _], _ => rfl⟩
  have g_keeps_jobs : mg "_keeps_jobs" = some (.ref (He.ga K "_keeps_jobs")) := He.glo_ok X G (cd.fact 7 (f := .glo "_keeps_jobs") rfl)
  obtain ⟨fd_keeps_jobs, W_keeps_jobs⟩ := cd.def_ 7 (d := d_keeps_jobs) rfl
  have F_keeps_jobs : Fun K "_keeps_jobs" "_keeps_jobs" s_keeps_jobs (He.ga K "_keeps_jobs") fd_keeps_jobs := funOf W_keeps_jobs
  have D_keeps_jobs : Df K mg "_keeps_jobs" s_keeps_jobs ["wish", "point"] := ⟨_, _, F_keeps_jobs, g_keeps_jobs, F_keeps_jobs.binds fun _ _ _ _ _ _ us hl => match us, hl with | [_, _], _ => rfl⟩
  have g_keeps_wish : mg "keeps_wish" = some (.ref (He.ga K "keeps_wish")) := He.glo_ok X G (cd.fact 8 (f := .glo "keeps_wish") rfl)
  obtain ⟨fd_keeps_wish, W_keeps_wish⟩ := cd.def_ 8 (d := d_keeps_wish) rfl
  have F_keeps_wish : Fun K "keeps_wish" "keeps_wish" s_keeps_wish (He.ga K "keeps_wish") fd_keeps_wish := funOf W_keeps_wish
  have D_keeps_wish : Df K mg "keeps_wish" s_keeps_wish ["wish", "point"] := ⟨_, _, F_keeps_wish, g_keeps_wish, F_keeps_wish.binds fun _ _ _ _ _ _ us hl => match us, hl with | [_, _], _ => rfl⟩
  have g_seats : mg "seats" = some (.ref (He.ga K "seats")) := He.glo_ok X G (cd.fact 9 (f := .glo "seats") rfl)
  obtain ⟨fd_seats, W_seats⟩ := cd.def_ 9 (d := d_seats) rfl
  have F_seats : Fun K "seats" "seats" s_seats (He.ga K "seats") fd_seats := funOf W_seats
  have D_seats : Df K mg "seats" s_seats ["wish", "point"] := ⟨_, _, F_seats, g_seats, F_seats.binds fun _ _ _ _ _ _ us hl => match us, hl with | [_, _], _ => rfl⟩
  have g_Ldraw : mg "_law_draw" = some (.ref (He.ga K "_law_draw")) := He.glo_ok X G (cd.fact 10 (f := .glo "_law_draw") rfl)
  obtain ⟨fd_Ldraw, W_Ldraw⟩ := cd.def_ 10 (d := d_Ldraw) rfl
  have F_Ldraw : Fun K "_law_draw" "_law_draw" s_Ldraw (He.ga K "_law_draw") fd_Ldraw := funOf W_Ldraw
  have D_Ldraw : Df K mg "_law_draw" s_Ldraw ["heap", "many"] := ⟨_, _, F_Ldraw, g_Ldraw, F_Ldraw.binds fun _ _ _ _ _ _ us hl => match us, hl with | [_, _], _ => rfl⟩
  have g_Lheap : mg "_law_heap" = some (.ref (He.ga K "_law_heap")) := He.glo_ok X G (cd.fact 11 (f := .glo "_law_heap") rfl)
  obtain ⟨fd_Lheap, W_Lheap⟩ := cd.def_ 11 (d := d_Lheap) rfl
  have F_Lheap : Fun K "_law_heap" "_law_heap" s_Lheap (He.ga K "_law_heap") fd_Lheap := funOf W_Lheap
  have D_Lheap : Df K mg "_law_heap" s_Lheap ["script"] := ⟨_, _, F_Lheap, g_Lheap, F_Lheap.binds fun _ _ _ _ _ _ us hl => match us, hl with | [_], _ => rfl⟩
  have g_Lpick : mg "_law_pick" = some (.ref (He.ga K "_law_pick")) := He.glo_ok X G (cd.fact 12 (f := .glo "_law_pick") rfl)
  obtain ⟨fd_Lpick, W_Lpick⟩ := cd.def_ 12 (d := d_Lpick) rfl
  have F_Lpick : Fun K "_law_pick" "_law_pick" s_Lpick (He.ga K "_law_pick") fd_Lpick := funOf W_Lpick
  have D_Lpick : Df K mg "_law_pick" s_Lpick ["heap", "some"] := ⟨_, _, F_Lpick, g_Lpick, F_Lpick.binds fun _ _ _ _ _ _ us hl => match us, hl with | [_, _], _ => rfl⟩
  have g_Lmixed : mg "_law_mixed" = some (.ref (He.ga K "_law_mixed")) := He.glo_ok X G (cd.fact 13 (f := .glo "_law_mixed") rfl)
  obtain ⟨fd_Lmixed, W_Lmixed⟩ := cd.def_ 13 (d := d_Lmixed) rfl
  have F_Lmixed : Fun K "_law_mixed" "_law_mixed" s_Lmixed (He.ga K "_law_mixed") fd_Lmixed := funOf W_Lmixed
  have D_Lmixed : Df K mg "_law_mixed" s_Lmixed ["heap", "some"] := ⟨_, _, F_Lmixed, g_Lmixed, F_Lmixed.binds fun _ _ _ _ _ _ us hl => match us, hl with | [_, _], _ => rfl⟩
  have g_Lsize : mg "_law_size" = some (.ref (He.ga K "_law_size")) := He.glo_ok X G (cd.fact 14 (f := .glo "_law_size") rfl)
  obtain ⟨fd_Lsize, W_Lsize⟩ := cd.def_ 14 (d := d_Lsize) rfl
  have F_Lsize : Fun K "_law_size" "_law_size" s_Lsize (He.ga K "_law_size") fd_Lsize := funOf W_Lsize
  have D_Lsize : Df K mg "_law_size" s_Lsize ["wish"] := ⟨_, _, F_Lsize, g_Lsize, F_Lsize.binds fun _ _ _ _ _ _ us hl => match us, hl with | [_], _ => rfl⟩
  have g_Ljobs : mg "_law_jobs" = some (.ref (He.ga K "_law_jobs")) := He.glo_ok X G (cd.fact 15 (f := .glo "_law_jobs") rfl)
  obtain ⟨fd_Ljobs, W_Ljobs⟩ := cd.def_ 15 (d := d_Ljobs) rfl
  have F_Ljobs : Fun K "_law_jobs" "_law_jobs" s_Ljobs (He.ga K "_law_jobs") fd_Ljobs := funOf W_Ljobs
  have D_Ljobs : Df K mg "_law_jobs" s_Ljobs ["wish"] := ⟨_, _, F_Ljobs, g_Ljobs, F_Ljobs.binds fun _ _ _ _ _ _ us hl => match us, hl with | [_], _ => rfl⟩
  have g_Lruns : mg "_law_runs" = some (.ref (He.ga K "_law_runs")) := He.glo_ok X G (cd.fact 16 (f := .glo "_law_runs") rfl)
  obtain ⟨fd_Lruns, W_Lruns⟩ := cd.def_ 16 (d := d_Lruns) rfl
  have F_Lruns : Fun K "_law_runs" "_law_runs" s_Lruns (He.ga K "_law_runs") fd_Lruns := funOf W_Lruns
  have D_Lruns : Df K mg "_law_runs" s_Lruns ["job", "point", "moment"] := ⟨_, _, F_Lruns, g_Lruns, F_Lruns.binds fun _ _ _ _ _ _ us hl => match us, hl with | [_, _, _], _ => rfl⟩
  have g_Lmoments : mg "_law_moments" = some (.ref (He.ga K "_law_moments")) := He.glo_ok X G (cd.fact 17 (f := .glo "_law_moments") rfl)
  obtain ⟨fd_Lmoments, W_Lmoments⟩ := cd.def_ 17 (d := d_Lmoments) rfl
  have F_Lmoments : Fun K "_law_moments" "_law_moments" s_Lmoments (He.ga K "_law_moments") fd_Lmoments := funOf W_Lmoments
  have D_Lmoments : Df K mg "_law_moments" s_Lmoments ["jobs", "point"] := ⟨_, _, F_Lmoments, g_Lmoments, F_Lmoments.binds fun _ _ _ _ _ _ us hl => match us, hl with | [_, _], _ => rfl⟩
  have g_Lneeds : mg "_law_needs" = some (.ref (He.ga K "_law_needs")) := He.glo_ok X G (cd.fact 18 (f := .glo "_law_needs") rfl)
  obtain ⟨fd_Lneeds, W_Lneeds⟩ := cd.def_ 18 (d := d_Lneeds) rfl
  have F_Lneeds : Fun K "_law_needs" "_law_needs" s_Lneeds (He.ga K "_law_needs") fd_Lneeds := funOf W_Lneeds
  have D_Lneeds : Df K mg "_law_needs" s_Lneeds ["jobs", "point", "moment"] := ⟨_, _, F_Lneeds, g_Lneeds, F_Lneeds.binds fun _ _ _ _ _ _ us hl => match us, hl with | [_, _, _], _ => rfl⟩
  have g_Lmost : mg "_law_most" = some (.ref (He.ga K "_law_most")) := He.glo_ok X G (cd.fact 19 (f := .glo "_law_most") rfl)
  obtain ⟨fd_Lmost, W_Lmost⟩ := cd.def_ 19 (d := d_Lmost) rfl
  have F_Lmost : Fun K "_law_most" "_law_most" s_Lmost (He.ga K "_law_most") fd_Lmost := funOf W_Lmost
  have D_Lmost : Df K mg "_law_most" s_Lmost ["jobs", "point"] := ⟨_, _, F_Lmost, g_Lmost, F_Lmost.binds fun _ _ _ _ _ _ us hl => match us, hl with | [_, _], _ => rfl⟩
  have g_Lwish : mg "_law_wish" = some (.ref (He.ga K "_law_wish")) := He.glo_ok X G (cd.fact 20 (f := .glo "_law_wish") rfl)
  obtain ⟨fd_Lwish, W_Lwish⟩ := cd.def_ 20 (d := d_Lwish) rfl
  have F_Lwish : Fun K "_law_wish" "_law_wish" s_Lwish (He.ga K "_law_wish") fd_Lwish := funOf W_Lwish
  have D_Lwish : Df K mg "_law_wish" s_Lwish ["heap", "point"] := ⟨_, _, F_Lwish, g_Lwish, F_Lwish.binds fun _ _ _ _ _ _ us hl => match us, hl with | [_, _], _ => rfl⟩
  have g_Lpeak_right : mg "_law_peak_right" = some (.ref (He.ga K "_law_peak_right")) := He.glo_ok X G (cd.fact 21 (f := .glo "_law_peak_right") rfl)
  obtain ⟨fd_Lpeak_right, W_Lpeak_right⟩ := cd.def_ 21 (d := d_Lpeak_right) rfl
  have F_Lpeak_right : Fun K "_law_peak_right" "_law_peak_right" s_Lpeak_right (He.ga K "_law_peak_right") fd_Lpeak_right := funOf W_Lpeak_right
  have D_Lpeak_right : Df K mg "_law_peak_right" s_Lpeak_right ["wish", "point"] := ⟨_, _, F_Lpeak_right, g_Lpeak_right, F_Lpeak_right.binds fun _ _ _ _ _ _ us hl => match us, hl with | [_, _], _ => rfl⟩
  have g_Lrunning_right : mg "_law_running_right" = some (.ref (He.ga K "_law_running_right")) := He.glo_ok X G (cd.fact 22 (f := .glo "_law_running_right") rfl)
  obtain ⟨fd_Lrunning_right, W_Lrunning_right⟩ := cd.def_ 22 (d := d_Lrunning_right) rfl
  have F_Lrunning_right : Fun K "_law_running_right" "_law_running_right" s_Lrunning_right (He.ga K "_law_running_right") fd_Lrunning_right := funOf W_Lrunning_right
  have D_Lrunning_right : Df K mg "_law_running_right" s_Lrunning_right ["wish", "point"] := ⟨_, _, F_Lrunning_right, g_Lrunning_right, F_Lrunning_right.binds fun _ _ _ _ _ _ us hl => match us, hl with | [_, _], _ => rfl⟩
  have g_Lloads_right : mg "_law_loads_right" = some (.ref (He.ga K "_law_loads_right")) := He.glo_ok X G (cd.fact 23 (f := .glo "_law_loads_right") rfl)
  obtain ⟨fd_Lloads_right, W_Lloads_right⟩ := cd.def_ 23 (d := d_Lloads_right) rfl
  have F_Lloads_right : Fun K "_law_loads_right" "_law_loads_right" s_Lloads_right (He.ga K "_law_loads_right") fd_Lloads_right := funOf W_Lloads_right
  have D_Lloads_right : Df K mg "_law_loads_right" s_Lloads_right ["heap", "wish", "point"] := ⟨_, _, F_Lloads_right, g_Lloads_right, F_Lloads_right.binds fun _ _ _ _ _ _ us hl => match us, hl with | [_, _, _], _ => rfl⟩
  have g_Lare_seats : mg "_law_are_seats" = some (.ref (He.ga K "_law_are_seats")) := He.glo_ok X G (cd.fact 24 (f := .glo "_law_are_seats") rfl)
  obtain ⟨fd_Lare_seats, W_Lare_seats⟩ := cd.def_ 24 (d := d_Lare_seats) rfl
  have F_Lare_seats : Fun K "_law_are_seats" "_law_are_seats" s_Lare_seats (He.ga K "_law_are_seats") fd_Lare_seats := funOf W_Lare_seats
  have D_Lare_seats : Df K mg "_law_are_seats" s_Lare_seats ["wish", "point", "found"] := ⟨_, _, F_Lare_seats, g_Lare_seats, F_Lare_seats.binds fun _ _ _ _ _ _ us hl => match us, hl with | [_, _, _], _ => rfl⟩
  have g_Lseats_right : mg "_law_seats_right" = some (.ref (He.ga K "_law_seats_right")) := He.glo_ok X G (cd.fact 25 (f := .glo "_law_seats_right") rfl)
  obtain ⟨fd_Lseats_right, W_Lseats_right⟩ := cd.def_ 25 (d := d_Lseats_right) rfl
  have F_Lseats_right : Fun K "_law_seats_right" "_law_seats_right" s_Lseats_right (He.ga K "_law_seats_right") fd_Lseats_right := funOf W_Lseats_right
  have D_Lseats_right : Df K mg "_law_seats_right" s_Lseats_right ["wish", "point"] := ⟨_, _, F_Lseats_right, g_Lseats_right, F_Lseats_right.binds fun _ _ _ _ _ _ us hl => match us, hl with | [_, _], _ => rfl⟩
  have g_Lheard : mg "_law_heard" = some (.ref (He.ga K "_law_heard")) := He.glo_ok X G (cd.fact 26 (f := .glo "_law_heard") rfl)
  obtain ⟨fd_Lheard, W_Lheard⟩ := cd.def_ 26 (d := d_Lheard) rfl
  have F_Lheard : Fun K "_law_heard" "_law_heard" s_Lheard (He.ga K "_law_heard") fd_Lheard := funOf W_Lheard
  have D_Lheard : Df K mg "_law_heard" s_Lheard ["wish", "point"] := ⟨_, _, F_Lheard, g_Lheard, F_Lheard.binds fun _ _ _ _ _ _ us hl => match us, hl with | [_, _], _ => rfl⟩
  have g_Lwide_right : mg "_law_wide_right" = some (.ref (He.ga K "_law_wide_right")) := He.glo_ok X G (cd.fact 27 (f := .glo "_law_wide_right") rfl)
  obtain ⟨fd_Lwide_right, W_Lwide_right⟩ := cd.def_ 27 (d := d_Lwide_right) rfl
  have F_Lwide_right : Fun K "_law_wide_right" "_law_wide_right" s_Lwide_right (He.ga K "_law_wide_right") fd_Lwide_right := funOf W_Lwide_right
  have D_Lwide_right : Df K mg "_law_wide_right" s_Lwide_right ["heap"] := ⟨_, _, F_Lwide_right, g_Lwide_right, F_Lwide_right.binds fun _ _ _ _ _ _ us hl => match us, hl with | [_], _ => rfl⟩
  have g_Lstairs_right : mg "_law_stairs_right" = some (.ref (He.ga K "_law_stairs_right")) := He.glo_ok X G (cd.fact 28 (f := .glo "_law_stairs_right") rfl)
  obtain ⟨fd_Lstairs_right, W_Lstairs_right⟩ := cd.def_ 28 (d := d_Lstairs_right) rfl
  have F_Lstairs_right : Fun K "_law_stairs_right" "_law_stairs_right" s_Lstairs_right (He.ga K "_law_stairs_right") fd_Lstairs_right := funOf W_Lstairs_right
  have D_Lstairs_right : Df K mg "_law_stairs_right" s_Lstairs_right ["heap"] := ⟨_, _, F_Lstairs_right, g_Lstairs_right, F_Lstairs_right.binds fun _ _ _ _ _ _ us hl => match us, hl with | [_], _ => rfl⟩
  have g_law : mg "law" = some (.ref (He.ga K "law")) := He.glo_ok X G (cd.fact 29 (f := .glo "law") rfl)
  obtain ⟨fd_law, W_law⟩ := cd.def_ 29 (d := d_law) rfl
  have F_law : Fun K "law" "law" s_law (He.ga K "law") fd_law := funOf W_law
  have g_Refused : mg "Refused" = some (.ref (He.ga K "Refused")) := He.glo_ok X G (cd.fact 30 (f := .glo "Refused") rfl)
  have g_InvalidPoint : mg "InvalidPoint" = some (.ref (He.ga K "InvalidPoint")) := He.glo_ok X G (cd.fact 31 (f := .glo "InvalidPoint") rfl)
  have g_KEEPERS : mg "KEEPERS" = some (.ref (He.ga K "KEEPERS")) := He.glo_ok X G (cd.fact 32 (f := .glo "KEEPERS") rfl)
  obtain ⟨t1, z_MOST⟩ := He.int_ok X G (cd.fact 33 (f := .int "MOST_SEATS" 1000) rfl)
  have m2 : exmOne K (.ref (He.ga K "Refused")) (.ref (He.ga K "Refused")) = some true := of_decide_eq_true (cd.fact 34 (f := .exm "Refused" "Refused" true) rfl)
  have z_len : mg "len" = none := He.free_ok X G (cd.fact 35 (f := .free "len") rfl)
  have z_range : mg "range" = none := He.free_ok X G (cd.fact 36 (f := .free "range") rfl)
  have z_int : mg "int" = none := He.free_ok X G (cd.fact 37 (f := .free "int") rfl)
  have z_abs : mg "abs" = none := He.free_ok X G (cd.fact 38 (f := .free "abs") rfl)
  have z_all : mg "all" = none := He.free_ok X G (cd.fact 39 (f := .free "all") rfl)
  have z_sum : mg "sum" = none := He.free_ok X G (cd.fact 40 (f := .free "sum") rfl)
  have z_repr : mg "repr" = none := He.free_ok X G (cd.fact 41 (f := .free "repr") rfl)
  have z_tuple : mg "tuple" = none := He.free_ok X G (cd.fact 42 (f := .free "tuple") rfl)
  have z_bool : mg "bool" = none := He.free_ok X G (cd.fact 43 (f := .free "bool") rfl)
  have z_list : mg "list" = none := He.free_ok X G (cd.fact 44 (f := .free "list") rfl)
  have z_set : mg "set" = none := He.free_ok X G (cd.fact 45 (f := .free "set") rfl)
  have z_any : mg "any" = none := He.free_ok X G (cd.fact 46 (f := .free "any") rfl)
  have z_enumerate : mg "enumerate" = none := He.free_ok X G (cd.fact 47 (f := .free "enumerate") rfl)
  have z_isinstance : mg "isinstance" = none := He.free_ok X G (cd.fact 48 (f := .free "isinstance") rfl)
  have z_min : mg "min" = none := He.free_ok X G (cd.fact 49 (f := .free "min") rfl)
  have z_max : mg "max" = none := He.free_ok X G (cd.fact 50 (f := .free "max") rfl)
  have z_sorted : mg "sorted" = none := He.free_ok X G (cd.fact 51 (f := .free "sorted") rfl)
  have z_ValueError : mg "ValueError" = none := He.free_ok X G (cd.fact 52 (f := .free "ValueError") rfl)
  obtain ⟨fd_iR, W_iR⟩ := cd.def_ 30 (d := d_iR) rfl
  have F_iR : Fun K "__init__" "Refused.__init__" s_iR (He.ma K (He.ga K "Refused") "__init__") fd_iR := funOf W_iR
  have B_iR : Binds K fd_iR ["self", "word"] [] := F_iR.binds fun _ _ _ _ _ _ us hl => match us, hl with | [_, _], _ => rfl
  have tR := clsB_ok x2 g_Refused
  obtain ⟨es, nn, kd⟩ := c.t.tab 0 (t := (fun K => He.ga K "KEEPERS", ["sum", "unlike", "table", "either", "bench", "room", "round"])) rfl
  have kd : L2.KDict K w (He.ga K "KEEPERS") es nn := kd
  have T : Txt K mg w (He.ga K "KEEPERS") es nn := ⟨z_len, z_range, z_int, z_abs, z_all, z_sum, z_repr, z_tuple, z_bool, z_list, z_set, z_any, z_enumerate, z_isinstance, z_min, z_max, z_sorted, z_ValueError, ⟨_, z_MOST, ⟨_, rfl⟩⟩, ⟨_, g_KEEPERS, rfl⟩, kd⟩
  have E2 : Ex1 K mg (He.ga K "Refused") (He.ga K "InvalidPoint") := ⟨⟨_, tR⟩, m2, isB_ok x5, x6, x7, ⟨_, g_InvalidPoint, rfl⟩⟩
  have FC := funCOf (p := pD) F_seats
  have efa : fa = He.ga K "law" := by
    have e := hfa.symm.trans g_law
    cases e
    rfl
  subst efa
  obtain ⟨u0, e0, r0⟩ := He.valsB_ok x4 (q := ("bench", .glo "_keeps_jobs")) (List.mem_cons_self ..)
  obtain ⟨u1, e1, r1⟩ := He.valsB_ok x4 (q := ("room", .glo "_keeps_jobs")) (List.mem_cons_of_mem _ (List.mem_cons_self ..))
  have tfp : pD ∈ tfL := List.mem_cons_self ..
  refine ⟨fd_law, [He.cT K pD], spLaw K [((He.cT K pD).2, qS)], fun p hp => ?_, fun p hp => ?_, fun p hp => ?_, ?_, ?_, ?_⟩
  · rw [List.mem_singleton.mp hp]
    exact c.empty pD tfp
  · rw [List.mem_singleton.mp hp]
    exact c.out pD tfp
  · rw [List.mem_singleton.mp hp]
    exact codeHd_of_K X (c.hd pD tfp)
  · intro s u
    obtain ⟨oc, od, kV, doc, pm, an, cdv, ct, osl, rfl, lk, hc⟩ := F_law.ex
    exact .of_eq rfl
  · intro H a ns hl _ hH hS
    refine ⟨a, ns, rfl, hS, hl, fun p hp => ?_, fun _ => rfl⟩
    rw [List.mem_singleton.mp hp]
    exact LamX.TabS.nil (hH _ (List.mem_cons_self ..))
  · intro base _ _ TB
    have TA := TB _ (List.mem_cons_self ..)
    have h0 : CX0 = CX0 ∨ CX0 = L2.CX l.prog w := .inl rfl
    have h1 : L2.CX l.prog w = CX0 ∨ L2.CX l.prog w = L2.CX l.prog w := .inr rfl
    have eR : ExK l.prog w K mg base "Refused" (He.ga K "Refused") := ⟨⟨_, _, tR, ok_iR F_iR, B_iR⟩⟩
    have a_size_of : Cal l.prog w K mg base 1 "size_of" spSize [] := cal_of D_size_of fun _ _ F => ok_size_of F 
    have a_jobs_of : Cal l.prog w K mg base 1 "jobs_of" spJobsOf [] := cal_of D_jobs_of fun _ _ F => ok_jobs_of F T
    have a_job_spans : Cal l.prog w K mg base 2 "job_spans" spSpans [] := cal_of D_job_spans fun _ _ F => ok_job_spans F T a_jobs_of
    have a_needs_over_time : Cal l.prog w K mg base 2 "needs_over_time" spOver [] := cal_of D_needs_over_time fun _ _ F => ok_needs_over_time F T
    have a_running : Cal l.prog w K mg base 3 "running" spRunning [] := cal_of D_running fun _ _ F => ok_running F T a_job_spans
    have k_running_moment_point_wish : CalK l.prog w K mg base 3 "running" ["moment", "point", "wish"] List.reverse spRunning := mkK3 F_running (ok_running F_running T a_job_spans) h0 g_running fun _ _ _ _ _ _ _ _ _ => rfl
    have a_load_between : Cal l.prog w K mg base 3 "load_between" spLoad [] := cal_of D_load_between fun _ _ F => ok_load_between F T a_job_spans
    have k_load_between_last_first_point_wish : CalK l.prog w K mg base 3 "load_between" ["last", "first", "point", "wish"] List.reverse spLoad := mkK4 F_load_between (ok_load_between F_load_between T a_job_spans) h0 g_load_between fun _ _ _ _ _ _ _ _ _ _ => rfl
    have a_peak : Cal l.prog w K mg base 3 "peak" spPeak [] := cal_of D_peak fun _ _ F => ok_peak F T a_job_spans a_needs_over_time
    have k_peak_point_wish : CalK l.prog w K mg base 3 "peak" ["point", "wish"] List.reverse spPeak := mkK2 F_peak (ok_peak F_peak T a_job_spans a_needs_over_time) h0 g_peak fun _ _ _ _ _ _ _ _ => rfl
    have a_keeps_jobs : Cal l.prog w K mg base 3 "_keeps_jobs" spKeeps [] := cal_of D_keeps_jobs fun _ _ F => ok_keeps_jobs F T a_size_of a_job_spans a_needs_over_time
    have TS : Kpr l.prog w K mg base (He.ga K "KEEPERS") (He.ga K "_keeps_jobs") :=
      ⟨⟨_, _, ok_keeps_jobs F_keeps_jobs T a_size_of a_job_spans a_needs_over_time, F_keeps_jobs.kp, F_keeps_jobs.binds fun _ _ _ _ _ _ us hl => match us, hl with | [_, _], _ => rfl⟩, ⟨_, _, u0, kd.at_, kd.lit, e0, r0⟩, ⟨_, _, u1, kd.at_, kd.lit, e1, r1⟩⟩
    have a_keeps_wish : Cal l.prog w K mg base 4 "keeps_wish" spKeeps [] := cal_of D_keeps_wish fun _ _ F => ok_keeps_wish F T TS
    have a_seats : CalX l.prog w K mg base 9 "seats" (spSeats [((He.cT K pD).2, qS)] (He.ga K "Refused")) := ⟨⟨_, _, _, ok_seats FC TA (List.mem_cons_self ..) (fun p hp _ => by rw [List.mem_singleton.mp hp]) T eR a_size_of a_jobs_of, g_seats, F_seats.kp, F_seats.binds fun _ _ _ _ _ _ us hl => match us, hl with | [_, _], _ => rfl⟩⟩
    have k_seats_point_wish : CalK l.prog w K mg base 9 "seats" ["point", "wish"] List.reverse (spSeats [((He.cT K pD).2, qS)] (He.ga K "Refused")) := mkK2 F_seats (ok_seats FC TA (List.mem_cons_self ..) (fun p hp _ => by rw [List.mem_singleton.mp hp]) T eR a_size_of a_jobs_of) h1 g_seats fun _ _ _ _ _ _ _ _ => rfl
    have a_Ldraw : Cal l.prog w K mg base 1 "_law_draw" spDraw [] := cal_of D_Ldraw fun _ _ F => ok_draw F T
    have a_Lheap : Cal l.prog w K mg base 1 "_law_heap" (spHeap K) [] := cal_of D_Lheap fun _ _ F => ok_heap F T
    have a_Lpick : Cal l.prog w K mg base 2 "_law_pick" spPick [] := cal_of D_Lpick fun _ _ F => ok_pick F T a_Ldraw
    have a_Lmixed : Cal l.prog w K mg base 2 "_law_mixed" spMixed [] := cal_of D_Lmixed fun _ _ F => ok_mixed F T a_Ldraw
    have a_Lsize : Cal l.prog w K mg base 1 "_law_size" spSize [] := cal_of D_Lsize fun _ _ F => ok_Lsize F 
    have a_Ljobs : Cal l.prog w K mg base 1 "_law_jobs" spJobsOf [] := cal_of D_Ljobs fun _ _ F => ok_Ljobs F T
    have a_Lruns : Cal l.prog w K mg base 1 "_law_runs" spRuns [] := cal_of D_Lruns fun _ _ F => ok_Lruns F 
    have a_Lmoments : Cal l.prog w K mg base 1 "_law_moments" spMoments [] := cal_of D_Lmoments fun _ _ F => ok_Lmoments F T
    have a_Lneeds : Cal l.prog w K mg base 2 "_law_needs" spNeeds [] := cal_of D_Lneeds fun _ _ F => ok_Lneeds F T a_Lruns
    have a_Lmost : Cal l.prog w K mg base 3 "_law_most" spMost [] := cal_of D_Lmost fun _ _ F => ok_Lmost F T (calM a_Lmoments (by decide)) a_Lneeds
    have a_Lwish : Cal l.prog w K mg base 4 "_law_wish" spWish [] := cal_of D_Lwish fun _ _ F => ok_Lwish F T a_Ldraw a_Lpick a_Lmixed a_Lmost
    have a_Lpeak_right : CalG l.prog w K mg base 5 "_law_peak_right" spPeakR := ⟨_, _, _, ok_Lpeak_right F_Lpeak_right T a_Ljobs a_Lmost a_peak k_peak_point_wish, g_Lpeak_right, F_Lpeak_right.kp, F_Lpeak_right.binds fun _ _ _ _ _ _ us hl => match us, hl with | [_, _], _ => rfl⟩
    have a_Lrunning_right : CalG l.prog w K mg base 6 "_law_running_right" spPeakR := ⟨_, _, _, ok_Lrunning_right F_Lrunning_right T a_Ljobs a_Lsize (calM a_Lmoments (by decide)) a_Lruns a_Lneeds a_running a_load_between a_keeps_wish a_peak k_running_moment_point_wish, g_Lrunning_right, F_Lrunning_right.kp, F_Lrunning_right.binds fun _ _ _ _ _ _ us hl => match us, hl with | [_, _], _ => rfl⟩
    have a_Lloads_right : CalG l.prog w K mg base 6 "_law_loads_right" spLoadsR := ⟨_, _, _, ok_Lloads_right F_Lloads_right T a_Ldraw a_Lpick a_Ljobs a_Lsize a_Lneeds a_load_between a_keeps_wish k_load_between_last_first_point_wish, g_Lloads_right, F_Lloads_right.kp, F_Lloads_right.binds fun _ _ _ _ _ _ us hl => match us, hl with | [_, _, _], _ => rfl⟩
    have a_Lare_seats : CalG l.prog w K mg base 4 "_law_are_seats" spAre := ⟨_, _, _, ok_Lare_seats F_Lare_seats T a_Ljobs a_Lsize, g_Lare_seats, F_Lare_seats.kp, F_Lare_seats.binds fun _ _ _ _ _ _ us hl => match us, hl with | [_, _, _], _ => rfl⟩
    have a_Lseats_right : CalG l.prog w K mg base 10 "_law_seats_right" (spSeatsR [((He.cT K pD).2, qS)]) := ⟨_, _, _, ok_Lseats_right F_Lseats_right T a_Ljobs a_Lsize a_Lmost a_Lare_seats a_seats k_seats_point_wish, g_Lseats_right, F_Lseats_right.kp, F_Lseats_right.binds fun _ _ _ _ _ _ us hl => match us, hl with | [_, _], _ => rfl⟩
    have a_Lheard : Cal l.prog w K mg base 11 "_law_heard" (spHeard [((He.cT K pD).2, qS)]) [] := cal_of D_Lheard fun _ _ F => ok_Lheard F T E2 a_seats
    have a_Lwide_right : CalG l.prog w K mg base 12 "_law_wide_right" (spTurn [((He.cT K pD).2, qS)]) := ⟨_, _, _, ok_Lwide_right F_Lwide_right T a_Ldraw a_Lpick a_Lare_seats a_Lheard a_peak a_keeps_wish, g_Lwide_right, F_Lwide_right.kp, F_Lwide_right.binds fun _ _ _ _ _ _ us hl => match us, hl with | [_], _ => rfl⟩
    have a_Lstairs_right : CalG l.prog w K mg base 10 "_law_stairs_right" (spTurn [((He.cT K pD).2, qS)]) := ⟨_, _, _, ok_Lstairs_right F_Lstairs_right T a_Ldraw a_Lpick a_Lmixed a_Lare_seats a_seats a_peak, g_Lstairs_right, F_Lstairs_right.kp, F_Lstairs_right.binds fun _ _ _ _ _ _ us hl => match us, hl with | [_], _ => rfl⟩
    have LC : LawC l.prog w K mg base (He.ga K "Refused") [((He.cT K pD).2, qS)] := ⟨a_Lheap, a_Ldraw, a_Lpick, a_Lwish, a_Lrunning_right, a_Lpeak_right, a_Lloads_right, a_Lseats_right, a_Lstairs_right, a_Lwide_right, a_running, a_load_between, a_peak, a_seats⟩
    exact ok_law F_law T LC
end M12

open PySem PySem.W PySem.Calls PyProof.Rows
set_option maxHeartbeats 0 in
theorem PySem.Challenge.cw_paperbest_k12_whole_hours_and_seats_holds : PySem.Challenge.rw_paperbest_k12_whole_hours_and_seats.Holds := by
  w_on; o_law; k_head; (case hw => w_witness2)
  refine Gd.walk_ofG (l := PySem.Challenge.rw_paperbest_k12_whole_hours_and_seats) (n := 63) (k := 13) (x := "script") rfl (by decide) (by kernel_rfl) ⟨rfl, by decide, by decide⟩ ?F
  case F =>
    intro w mg fa h Y G hmg
    exact ⟨_, km_in_of Y, M12.facts (km_in_of Y) G hmg ⟨by show He.obsT _ _ _ _ = He.valT _ _ _; kernel_rfl, by kernel_rfl, by intro p hp; rw [List.mem_singleton.mp hp]; kernel_rfl, by intro p hp; rw [List.mem_singleton.mp hp]; kernel_rfl, by intro p hp; rw [List.mem_singleton.mp hp]; exact km_tabs_of Y _ (List.mem_singleton.mpr (by kernel_rfl))⟩⟩
