import PyProof.Rows.All
import Wide.All
import OpenK.AllK
import Wide.FinOn
import HandS.Base
import HandS.Call
import HandS.List
import HandS.Iter
import HandS.Strs
import HandS.SetFor
import KE.SortKeyHeap
import KE.KSortKey
import HandS.Keys
import HandS.Conv
import HandS.SortKw
import HandS.Lambda
import HandS.Exc
import HandS.Words
import HandS.ForMost
import HandS.WordsExc
import HandS.Codes
import HandS.IsInst
import HandS.Style
import HandS.TupAny
import HandS.TupLe
import HandS.Gcd
import HandS.Zip
import HandS.Deep
import HandS.Wide
import HandS.WideBits
import HandS.ExcInit
import HandS.ExcField
import HandS.TryMany
import HandS.EndTab
import HandS.Defaults
import HandS.HeadHook1
import HandS.HeadHook2
import HandS.HeadHook3
import HandS.HeadHook4
import KE.KExcIs
import KE.GoesMore
import KE.GoesZip
import KE.KDictZip
import PyProof.Rows.SortShellAny
import PyProof.ReprRoads
import PyProof.ReprReads
import KE.GoesEnum
import KE.KMathG
import HandS.Comp
import HandS.TupMul
import HandS.Sort
import HandS.More
import HandS.CallLocal
import HandS.Rev
import HandS.Small
import HandS.Dict
import HandS.Text
import HandS.Walk
import PySem.Challenge.RW_paperbest_k60_whole_draws_of_benches
import HandS.Head0
import HandS.Head1
import HandS.Head2
import HandS.Head3
import HandS.HeadEnd
import HandS.HeadWalk
import PyProof.Rows.StrMul
import KE.KStateDown
set_option Elab.async false
set_option linter.all false
set_option maxRecDepth 100000
set_option maxHeartbeats 8000000
/-! set(l) of a list of integers, as a value that sorted takes. -/
namespace Own
open PySem PySem.Spec PyProof.Rows L2
section
variable {P : Program} {w : World} {A : Around} {E : Value → Shared → Prop} {s : Shared}
/-- the empty set as it is made -/
abbrev emO (w : World) : Obj := { cls := .type "set", dict := none, data := .set #[] 0 (.fresh 0 0 (!w.params.followText "set-order")) }
/-- a type is called: what it makes, the check of its init's arguments as a wish, its init -/
theorem made_by {T nw it : String} {B : Builtin} {xs : List Value} {Q Q1 : Value → Shared → Prop} (ft : TypeCalled T nw it) (c0 : checkTypeCall T ⟨xs, []⟩ = pure ()) (e0 : entryFor table it = some B)
    (mk : codeAny (model P w) A.in1 (.call (.builtin nw) ⟨.type T :: xs, []⟩) (wants Q1 E) s)
    (go : ∀ v z, Q1 v z → z.TypeIs v T ∧ (∀ {M' : Model} {A' : Around} {E' : Value → Shared → Prop} {Q' : Unit → Shared → Prop}, Q' () z → wpAny M' A' (checkBuiltinCall it ⟨v :: xs, []⟩) Q' E' z) ∧
      wpAny (model P w) A.in1.in1 (B ⟨v :: xs, []⟩)
        (fun d z' => match d with | .done f => wants (fun r z2 => r = .none ∧ Q v z2) E (.ok f) z' | .again k => k.quiet = true ∧ codeAny (model P w) A.in1 k (wants (fun r z2 => r = .none ∧ Q v z2) E) z')
        (fun e z' => wants (fun r z2 => r = .none ∧ Q v z2) E (.error e) z') z) :
    wpAny (model P w) A (call (.type T) xs) Q E s := by
  have ⟨k, ks, km⟩ := ft.mro
  have k1 := ft.made
  have k2 := ft.sub
  have k3 := ft.notType
  have k4 := ft.canCreate
  apply wpAny_call; apply codeAny_of_tree
  change wpAny (model P w) _ (callAny (Value.type T) ⟨xs, []⟩) _ _ _
  apply wpAny_pure; refine ⟨Code.quiet_builtin _ (by decide +kernel), ?_⟩
  apply codeAny_builtin F.entry_type_call
  rw [Around.under_plain (weight_type_call_type T xs []) rfl]
  repeat any_goals first | wp_step | assumption
  refine codeAny_mono mk ?_
  rintro (v | fl) z hz
  · exact hz
  · cases fl with
    | ret v =>
      obtain ⟨y1, y2, y3⟩ := go v z hz
      have k5 := ft.init.lookup
      have k6 := ft.init.bind v
      repeat any_goals first | wp_step | assumption
      refine codeAny_mono (codeAny_call_builtin ft.init.plain e0 (y2 y3)) ?_
      rintro (x | g) z2 hz2
      · exact hz2
      · cases g with
        | ret x =>
          obtain ⟨rfl, hq⟩ := hz2
          repeat any_goals first | wp_step | assumption
        | _ => exact hz2.elim
    | _ => exact hz.elim
theorem sets_of_list {l : Addr} {items : Array Value} (ns : List Int) {Q : Value → Shared → Prop} (hh : A.handled = none) (hl : s.heap.IsList l items) (hi : IntsAre items.toList ns) (few : ns.length < 64)
    (q : ∀ (h2 : Heap) (t2 c : Nat), c ≤ ns.length → SetR w h2 s.heap.objs.size (fun j => decide (j ∈ ns)) c → (∀ b o, s.heap.get? b = some o → h2.get? b = some o) → Q (.ref s.heap.objs.size) { s with heap := h2, toks := t2 }) :
    wpAny (model P w) A (call (.type "set") [Value.ref l]) Q E s := by
  have sz : items.size = ns.length := (Array.length_toList (xs := items)).symm.trans (IntsAre.length hi)
  refine made_by F.called_set (F.typeCall_set_1 _) F.entry_set_init (code_set_led1 _ (Q₁ := fun r z => r = .ref s.heap.objs.size ∧ z = { s with heap := s.heap.push (emO w) }) ⟨rfl, rfl⟩) ?_
  rintro _ _ ⟨rfl, rfl⟩
  have got : (s.heap.push (emO w)).get? s.heap.objs.size = some (emO w) := Heap.get?_push_size _ rfl
  refine ⟨⟨_, got, rfl⟩, fun y => check_set_init_1 ⟨_, got, rfl⟩ y, ?_⟩
  have hl2 : (s.heap.push (emO w)).IsList l items := hl.at fun o e => Heap.get?_push_of_some _ e
  obtain ⟨⟨oc, od, oa, os⟩, el, cl, cn, dl⟩ := id hl2
  dsimp only at cl dl
  subst cl dl
  have lS : l < s.heap.objs.size := by
    obtain ⟨o, e, _⟩ := hl
    exact Heap.lt_size e
  have no1 := F.sub_list_set
  have no2 := F.sub_list_frozenset
  have no3 : (Value.type "list" == Value.type "dict") = false := by decide
  unfold Builtin.«set.__init__»
  unfold noKeywords
  unfold Builtin.Frozenset.updateFrom
  generalize hPI : pyIter = PI
  wp_walk
  subst hPI
  refine wpAny_pyIter_list hl2 ?_
  refine wpAny_bind ?_
  refine wpAny_runValue ?_
  have n1 : (s.heap.push (emO w)).objs.size = s.heap.objs.size + 1 := Heap.size_push ..
  have ne1 : l ≠ (s.heap.push (emO w)).objs.size := by
    rw [n1]
    exact Nat.ne_of_lt (Nat.lt_succ_of_lt lS)
  refine set_update_ints ((Walks.list (by simp [hh]) _ l ne1 items).toS) s.heap.objs.size ?_ ns sz (by unfold scanBound; omega) (fun i v hv => ?_) (items.size - 0) 0 _ (by omega) (Nat.zero_le _) ⟨⟨_, Heap.get?_push_size _ rfl, rfl, rfl⟩, hl2.push _⟩ ⟨0, Nat.le_refl 0, setR_new_at (Heap.get?_push_of_some _ got)⟩ (fun z c mv hc R => ?_)
  · simp only [List.mem_cons, List.not_mem_nil, or_false, not_or]
    rw [n1]
    exact ⟨Nat.ne_of_lt (Nat.lt_succ_self _), Nat.ne_of_gt lS⟩
  · have hv : items[i]? = some v := hv
    obtain ⟨t, e⟩ := IntsAre.int_at hi i v (by rw [Array.getElem?_toList]; exact hv)
    have li : i < ns.length := by
      rw [← sz]
      exact (Array.getElem?_eq_some_iff.mp hv).1
    exact ⟨_, t, List.getElem?_eq_getElem li, by rw [e, List.getD_eq_getElem?_getD, List.getElem?_eq_getElem li]; rfl⟩
  · obtain ⟨h2, g2, d2, t2, o2⟩ := z
    obtain rfl : g2 = s.gens := mv.gens
    obtain rfl : d2 = s.drawn := mv.drawn
    obtain rfl : o2 = s.os := mv.os
    refine wpAny_pure (wpAny_pure ⟨rfl, q h2 t2 c (by omega) R fun b o e => ?_⟩)
    have lb : b < s.heap.objs.size := Heap.lt_size e
    refine mv.heap b o ?_ (Heap.get?_push_of_some _ (Heap.get?_push_of_some _ e))
    rw [n1]
    simp only [List.mem_cons, List.not_mem_nil, or_false, not_or]
    exact ⟨Nat.ne_of_lt lb, Nat.ne_of_lt (Nat.lt_succ_of_lt lb)⟩
def rSetL (K : PySem.W.Frag) (w : World) : List V → Hp → VK → Prop := fun xs H Q => ∃ (l : Addr) (ns : List Int), xs = [.ref l] ∧ SqL K H l (ns.map V.int) ∧ ns.length < 64 ∧ ∀ (p : Addr) (c : Nat), c ≤ ns.length → H p = none → Q (.ref p) (upd H p (SetO w p (fun j => decide (j ∈ ns)) c))
theorem cr_setL {X : Cx} (hc : X.calm = true) : CallR X (.type "set") (rSetL X.K X.w) := by
  intro pins s σ H xs us Q I r h
  obtain ⟨l, ns, rfl, hs, few, q⟩ := h
  rw [Vals.ref1 r]
  obtain ⟨its, rv, pl, hz⟩ := I.list hs
  refine sets_of_list (P := X.prog) (w := X.w) ns (I.ok.hd hc) pl.isList (by simpa using ints_of_vals rv) few fun h2 t2 c hc2 R k => ?_
  exact ⟨.ref s.heap.objs.size, upd H s.heap.objs.size (SetO X.w s.heap.objs.size (fun j => decide (j ∈ ns)) c), I.laid (t' := t2) k (Nat.le_refl _) (setO_new R), rfl, q _ c hc2 (I.hok.fresh (Nat.le_refl _))⟩
end
end Own

/-! sorted(.., key=lambda ..) over tracked heaps. -/
namespace SrK
open PySem PySem.Spec PySem.W PyProof.Rows L2
section
variable {K : PySem.W.Frag} {H H' : Hp}
theorem sqT_same {a : Addr} {xs : List V} (e : L2.Same H H') (h : SqT K H a xs) : SqT K H' a xs :=
  h.elim (fun h => .inl (h.elim (fun h => .inl (e _ _ h)) fun ⟨o, h⟩ => .inr ⟨o, e _ _ h⟩)) fun h => .inr h
mutual
theorem dp_same (e : L2.Same H H') : ∀ (d : PyData) (v : V), Dp K H v d → Dp K H' v d
  | .none, _, h => by cases h; exact .non
  | .bool b, _, h => by cases h; exact .bl b
  | .int i, _, h => by cases h; exact .int i
  | .str x, _, h => by cases h; exact .str x
  | .list ds, _, h => by
    cases h with
    | lst hs ha => exact .lst (e.seq hs) (dpAll_same e ds _ ha)
  | .tuple ds, _, h => by
    cases h with
    | tup hs ha => exact .tup (sqT_same e hs) (dpAll_same e ds _ ha)
  | .dict _, _, h => by cases h
theorem dpAll_same (e : L2.Same H H') : ∀ (ds : List PyData) (vs : List V), DpAll K H vs ds → DpAll K H' vs ds
  | [], _, h => by cases h; exact .nil
  | d :: ds, _, h => by
    cases h with
    | cons h1 h2 => exact .cons (dp_same e d _ h1) (dpAll_same e ds _ h2)
end
theorem dpAll_snoc {v : V} {d : PyData} (h : Dp K H v d) : ∀ {vs : List V} {ds : List PyData}, DpAll K H vs ds → DpAll K H (vs ++ [v]) (ds ++ [d])
  | _, _, .nil => .cons h .nil
  | _, _, .cons h1 h2 => .cons h1 (dpAll_snoc h h2)
theorem dpAll_len : ∀ {vs : List V} {ds : List PyData}, DpAll K H vs ds → vs.length = ds.length
  | _, _, .nil => rfl
  | _, _, .cons _ h2 => by rw [List.length_cons, List.length_cons, dpAll_len h2]
end
theorem vals_each {is : List Int} {us : List Value} (h : EachIs (fun (v : Value) (i : Int) => RelV (.int i) v) us is) : Vals (is.map V.int) us := by
  induction h with
  | nil => exact .nil
  | cons h1 _ ih => exact .cons h1 ih
theorem each_vals : ∀ {is : List Int} {us : List Value}, Vals (is.map V.int) us → EachIs (fun (v : Value) (i : Int) => RelV (.int i) v) us is
  | [], _, h => by cases h; exact .nil
  | i :: is, _, h => by
    cases h with
    | cons h1 h2 => exact .cons h1 (each_vals h2)
section
variable {X : Cx} {pins : List (Addr × Obj)} {σ : L2.St} {H : Hp} {s : Shared} {A : Around} {E : Value → Shared → Prop}
theorem fp_same {b : Addr} {H1 : Hp} (f : FpOk X pins H b) (n : H1 b = none) : FpOk X pins H1 b := ⟨n, f.2⟩
theorem turnOne {b : Addr} {h' : Heap} {t' : Nat} (I : Inv X pins σ H s) (f : FpOk X pins H b) (k : ∀ c o, c ≠ b → s.heap.get? c = some o → h'.get? c = some o) : Inv X pins σ H { s with heap := h', toks := t' } :=
  I.turned k f.1 f.2.1 f.2.2.2.1 f.2.2.2.2.1 f.2.2.2.2.2
theorem lst_data {a : Addr} {xs : Array Value} {n : Nat} : ∀ v, (seqObj "list" xs n).data ≠ .cell v := fun v z => by cases z
/-- what a turn of the key gives -/
def KeyTurn (X : Cx) (A : Around) (E : Value → Shared → Prop) (fa : Value) (H0 : Hp) (pins : List (Addr × Obj)) (σ : L2.St) (i : Int) (k : PyData) : Prop :=
  ∀ (u : Value) (H1 : Hp) (s1 : Shared) (more : List (Addr × Obj)), RelV (.int i) u → L2.Same H0 H1 → Inv X (pins ++ more) σ H1 s1 →
    wpAny (model X.prog X.w) A (call fa [u]) (EP X (pins ++ more) σ fun v H2 => L2.Same H1 H2 ∧ Dp X.K H2 v k) E s1
theorem key_loop {a kS : Addr} {e1 : Nat} {fa : Value} {k : Int → PyData} {is : List Int} {P : PySem.Fin → Shared → Prop} {its : List Value} (I : Inv X pins σ H s) (fA : FpOk X pins H a) (fK : FpOk X pins H kS) (na : s.heap.get? a = some (seqObj "list" #[] e1)) (nk : s.heap.get? kS = some (seqObj "list" #[] 0))
    (hka : kS ≠ a) (rv : Vals (is.map V.int) its) (hZ : its.length ≤ sizeLine) (turn : ∀ i ∈ is, KeyTurn X A (fun _ _ => False) fa H pins σ i (k i))
    (fin : ∀ (H' : Hp) (s' : Shared) (kA : Array Value) (e : Nat) (kvs : List V), L2.Same H H' → Inv X pins σ H' s' → FpOk X pins H' a → FpOk X pins H' kS → s'.heap.get? a = some (seqObj "list" #[] e1) → s'.heap.get? kS = some (seqObj "list" kA e) → Vals kvs kA.toList → DpAll X.K H' kvs (is.map k) →
      wpAny (model X.prog X.w) A (Builtin.List.listItems (.ref kS) >>= fun keys => ksk_end a false its.toArray e1 (.ref kS) keys) P E s') :
    wpAny (model X.prog X.w) A (ksk_rest a fa false its.toArray e1 (.ref kS)) P E s := by
  have lI : is.length = its.length := by have := rv.length; rw [List.length_map] at this; exact this
  unfold ksk_rest
  refine wpAny_bind (wpAny_rule ?_)
  rw [show (forIn its.toArray PUnit.unit : (Value → PUnit → Sem (ForInStep PUnit)) → Sem PUnit) = forIn its PUnit.unit from by funext g; simp]
  refine wpAny_bind (ksk_fold (fun i s' => ∃ (H' : Hp) (kA : Array Value) (e : Nat) (kvs : List V), L2.Same H H' ∧ Inv X pins σ H' s' ∧ FpOk X pins H' a ∧ FpOk X pins H' kS ∧ s'.heap.get? a = some (seqObj "list" #[] e1) ∧ s'.heap.get? kS = some (seqObj "list" kA e) ∧ Vals kvs kA.toList ∧ DpAll X.K H' kvs ((is.map k).take i)) its 0 s
    ⟨H, #[], 0, [], L2.Same.refl H, I, fA, fK, na, nk, .nil, by rw [List.take_zero]; exact .nil⟩ ?st ?dn)
  case st =>
    rintro j u s' hu ⟨H', kA, e, kvs, sm, I', fa', fk', na', nk', vk, dk⟩
    simp only [Nat.zero_add] at dk ⊢
    obtain ⟨i, hi, ri⟩ : ∃ i, is[j]? = some i ∧ RelV (.int i) u := by
      have hj : j < is.length := by rw [lI]; exact (List.getElem?_eq_some_iff.mp hu).1
      have e0 : (is.map V.int)[j]? = some (.int is[j]) := by rw [List.getElem?_map, List.getElem?_eq_getElem hj]; rfl
      obtain ⟨u', hu', r⟩ := rv.get e0
      rw [hu] at hu'
      rw [← Option.some.inj hu'] at r
      exact ⟨is[j], List.getElem?_eq_getElem hj, r⟩
    have Ip := I'.pinned (fp := [a, kS]) (fun b hb => by
      rcases List.mem_cons.mp hb with z | z
      · rw [z]; exact fa'
      · rw [List.mem_singleton.mp z]; exact fk') (fun b hb => by
      rcases List.mem_cons.mp hb with z | z
      · rw [z]; exact ⟨_, na', lst_data (a := a)⟩
      · rw [List.mem_singleton.mp z]; exact ⟨_, nk', lst_data (a := a)⟩)
    have pA : (a, seqObj "list" #[] e1) ∈ pinsAt [a, kS] s'.heap := List.mem_filterMap.mpr ⟨a, List.mem_cons_self .., by rw [na']; rfl⟩
    have pK : (kS, seqObj "list" kA e) ∈ pinsAt [a, kS] s'.heap := List.mem_filterMap.mpr ⟨kS, List.mem_cons_of_mem _ (List.mem_cons_self ..), by rw [nk']; rfl⟩
    refine wpAny_bind (wpAny_attempt (wpAny_mono (turn i (List.mem_of_getElem? hi) u H' s' _ ri sm Ip) (fun r s2 he => ?_) fun _ _ hF => hF.elim))
    obtain ⟨v, H2, I2, rv2, sm2, dv⟩ := he
    have q1 := I2.pin _ (List.mem_append_right _ (List.mem_append_right _ pA))
    have q2 := I2.pin _ (List.mem_append_right _ (List.mem_append_right _ pK))
    have J := I2.unpinned
    have fa2 := fp_same fa' q1.2.1
    have fk2 := fp_same fk' q2.2.1
    have na2 : s2.heap.get? a = some (seqObj "list" #[] e1) := q1.1
    have nk2 : s2.heap.get? kS = some (seqObj "list" kA e) := q2.1
    have sb := Heap.SameBut.update s2.heap kS (Obj.mapSeq (·.push r))
    obtain ⟨c2, hc2⟩ : ∃ c2, (s2.heap.update kS (Obj.mapSeq (·.push r))).get? kS = some (seqObj "list" (kA.push r) c2) := ⟨_, get?_update_seq nk2 (·.push r)⟩
    have hz : kA.size ≤ sizeLine := by
      have h1 := vk.length
      have h2 := dpAll_len dk
      rw [List.length_take, List.length_map] at h2
      have h3 : kA.toList.length = kA.size := Array.length_toList
      have : j < its.length := (List.getElem?_eq_some_iff.mp hu).1
      omega
    try dsimp only
    refine wpAny_bind (listUpdate_at nk2 rfl ?_ hz (by rw [Array.size_push]; omega))
    refine wpAny_pure ⟨rfl, H2, kA.push r, c2, kvs ++ [v], sm.trans sm2, turnOne (t' := s2.toks) J fk2 (fun c o hc ho => (sb.2 c hc).trans ho), fa2, fk2, (sb.2 a hka.symm).trans na2, hc2, ?_, ?_⟩
    · rw [Array.toList_push]
      exact vk.append (.cons rv2 .nil)
    · have ek : (is.map k).take (j + 1) = (is.map k).take j ++ [k i] := by
        rw [List.take_add_one, List.getElem?_map, hi]; rfl
      rw [ek]
      exact dpAll_snoc dv (dpAll_same sm2 _ _ dk)
  case dn =>
    rintro s' ⟨H', kA, e, kvs, sm, I', fa', fk', na', nk', vk, dk⟩
    rw [Nat.zero_add, List.take_of_length_le (by rw [List.length_map, lI]; exact Nat.le_refl _)] at dk
    exact fin H' s' kA e kvs sm I' fa' fk' na' nk' vk dk
theorem key_tree {a : Addr} {n : Nat} {fa : Value} {k : Int → PyData} {is : List Int} {P : PySem.Fin → Shared → Prop} {its : List Value} (I : Inv X pins σ H s) (fA : FpOk X pins H a) (ho : s.heap.get? a = some (seqObj "list" its.toArray n))
    (rv : Vals (is.map V.int) its) (hZ : its.length ≤ sizeLine) (hal : AllAlike (is.map k)) (hsk : Sortable (is.map k)) (hu : ∀ d ∈ is.map k, A.units + d.depth < cLine) (turn : ∀ i ∈ is, KeyTurn X A (fun _ _ => False) fa H pins σ i (k i))
    (fin : ∀ (H' : Hp) (s' : Shared), L2.Same H H' → H' a = none → Inv X pins σ (upd H' a (.lst ((is.mergeSort (dataLe false k)).map V.int))) s' → P (.done (.ret .none)) s') :
    wpAny (model X.prog X.w) A (ksk_tree a fa false) P E s := by
  have lI : is.length = its.length := by have := rv.length; rw [List.length_map] at this; exact this
  obtain ⟨e1, ho1⟩ : ∃ e1, (s.heap.update a (Obj.mapSeq fun _ => (#[] : Array Value))).get? a = some (seqObj "list" #[] e1) := ⟨_, get?_update_seq ho fun _ => #[]⟩
  have sb := Heap.SameBut.update s.heap a (Obj.mapSeq fun _ => (#[] : Array Value))
  have I1 := turnOne (t' := s.toks) I fA (fun c o hc e => (sb.2 c hc).trans e)
  unfold ksk_tree
  refine wpAny_bind (listItems_at ho rfl ?_)
  refine wpAny_bind (listUpdate_at ho rfl ?_ (by rw [List.size_toArray]; exact hZ) (Nat.zero_le _))
  refine wpAny_bind (seqEpoch_at ho1 rfl ?_)
  refine wpAny_bind (wpAny_newTuple ?_ (by show its.length ≤ _; exact hZ))
  refine wpAny_bind (wpAny_newList ?_ (Nat.zero_le _))
  refine wpAny_holding ?_
  generalize hg1 : (s.heap.update a (Obj.mapSeq fun _ => (#[] : Array Value))).push (seqObj "tuple" its.toArray 0) = g1
  have k1 : ∀ b o, (s.heap.update a (Obj.mapSeq fun _ => (#[] : Array Value))).get? b = some o → g1.get? b = some o := fun b o e => by rw [← hg1]; exact Heap.get?_push_of_some _ e
  have I2 : Inv X pins σ H { s with heap := g1 } := I1.kept (t' := s.toks) k1
  have I3 : Inv X pins σ H { s with heap := g1.push (seqObj "list" #[] 0) } := I2.kept (t' := s.toks) fun b o e => Heap.get?_push_of_some _ e
  have nK : H g1.objs.size = none := I2.hok.fresh (Nat.le_refl _)
  have fK : FpOk X pins H g1.objs.size := I2.fpOk (Nat.le_refl _) nK
  have hka : g1.objs.size ≠ a := fun z => by
    have := Heap.lt_size (k1 _ _ ho1)
    rw [z] at this
    exact Nat.lt_irrefl _ this
  refine key_loop (k := k) I3 fA fK (Heap.get?_push_of_some _ (k1 _ _ ho1)) (Heap.get?_push_size _ rfl) hka rv hZ turn fun H' s' kA e kvs sm I' fa' fk' na' nk' vk dk => ?_
  refine wpAny_bind (listItems_at nk' rfl ?_)
  obtain ⟨as, ra⟩ := Dp.readsAll I' _ _ _ dk vk
  have re : EachIs (fun v k => ∃ as, Reads s'.heap v k as) kA.toList (is.map k) := each_map k (readsAll_each k ra)
  have hsz : kA.size = its.length := by
    have h1 := vk.length
    have h2 := dpAll_len dk
    rw [List.length_map] at h2
    have h3 : kA.toList.length = kA.size := Array.length_toList
    omega
  obtain ⟨G, g2, g3⟩ := restrict s'.heap (fun b => !decide (b = g1.objs.size))
  have gG : ∀ b o, G.get? b = some o → s'.heap.get? b = some o := fun b o e => by
    by_cases hb : b = g1.objs.size
    · rw [g3 b (by simp [hb])] at e
      cases e
    · rw [g2 b (by simp [hb])] at e
      exact e
  refine keyH_end (κ := dataKind s'.heap (is.map k)) (h₁ := G) (fun b o _ e => gG b o e) (g3 _ (by simp)) nk' na' hka (SortsAt.data re hal hsk hu) hsz hZ fun h3 tk3 c k3 n3 => ?_
  have ko : KeyedOut false (is.map k) its (sortVals (dataKind s'.heap (is.map k)) false kA.toList its) := ⟨s'.heap, kA.toList, hal, rfl, re⟩
  have eo := vals_each (keyedOut_each k ko (each_vals rv))
  have kk : ∀ b o, b ∉ [a, g1.objs.size] → s'.heap.get? b = some o → h3.get? b = some o := fun b o hb e => by
    have hb1 : b ≠ a := fun z => hb (by simp [z])
    have hb2 : b ≠ g1.objs.size := fun z => hb (by simp [z])
    exact k3 b o hb1 (by rw [g2 b (by simp [hb2])]; exact e)
  have J : Inv X pins σ H' { s' with heap := h3, toks := tk3 } := I'.turnedL kk (fun b hb => by
    rcases List.mem_cons.mp hb with z | z
    · rw [z]; exact fa'
    · rw [List.mem_singleton.mp z]; exact fk')
  have hlen : ((is.mergeSort (dataLe false k)).map V.int).length ≤ sizeLine := by
    rw [List.length_map, List.length_mergeSort, lI]; exact hZ
  exact fin H' _ sm fa'.1 (J.take (t' := tk3) (fun _ _ _ e => e) fa' ⟨hlen, _, c, eo, n3⟩)
theorem sorted_key {r f : Addr} {k : Int → PyData} {is : List Int} {Q : VK} (I : Inv X pins σ H s)
    (hcol : ∀ Q' : List Value → Shared → Prop, (∀ (its : List Value) (h' : Heap) (tk : Nat), (∀ b o, s.heap.get? b = some o → h'.get? b = some o) → Vals (is.map V.int) its → its.length ≤ sizeLine → Q' its { s with heap := h', toks := tk }) → wpAny (model X.prog X.w) A.in1 (collect (.ref r)) Q' E s)
    (hal : AllAlike (is.map k)) (hsk : Sortable (is.map k)) (hu : ∀ d ∈ is.map k, A.units + 2 + d.depth < cLine) (turn : ∀ i ∈ is, KeyTurn X A.in1.in1 (fun _ _ => False) (.ref f) H pins σ i (k i))
    (fin : ∀ (H' : Hp) (p : Addr), L2.Same H H' → H' p = none → Q (.ref p) (upd H' p (.lst ((is.mergeSort (dataLe false k)).map V.int)))) :
    wpAny (model X.prog X.w) A (call (.builtin "sorted") [.ref r] [(Str.ofString "key", .ref f)]) (EP X pins σ Q) E s := by
  refine call_function_entry_kw kind_sorted plain_sorted entry_sorted (ksk_s1 _ _) ?_
  unfold Builtin.«sorted»
  refine wpAny_bind (m := checkCount "sorted" 1 1 _) (wpAny_pure ?_)
  refine wpAny_bind (hcol _ fun its h' tk kp rv hZ => ?_)
  refine wpAny_bind (wpAny_newList ?_ hZ)
  have I1 : Inv X pins σ H { s with heap := h', toks := tk } := I.kept kp
  have nA : H h'.objs.size = none := I1.hok.fresh (Nat.le_refl _)
  have fA : FpOk X pins H h'.objs.size := I1.fpOk (Nat.le_refl _) nA
  have I2 : Inv X pins σ H { s with heap := h'.push (seqObj "list" its.toArray 0), toks := tk } := I1.kept (t' := tk) fun b o e => Heap.get?_push_of_some _ e
  have ho : (h'.push (seqObj "list" its.toArray 0)).get? h'.objs.size = some (seqObj "list" its.toArray 0) := Heap.get?_push_size _ rfl
  refine wpAny_bind (wpAny_holding (wpAny_call_entry_kw slot_list_sort ⟨_, ho, rfl⟩ entry_list_sort ?body (ksk_l1 _ _)))
  case body =>
    rw [ksk_t1]
    refine key_tree (A := A.in1.in1) (k := k) I2 fA ho rv hZ hal hsk hu ?_ fun H' s' sm na J => ⟨_, rfl, ?_⟩
    · intro i hi u H1 s1 more ru sm J
      exact turn i hi u H1 s1 more ru sm J
    · exact wpAny_pure ⟨_, rfl, ⟨.ref h'.objs.size, _, J, rfl, fin H' _ sm na⟩⟩
end
/-! ### a lambda with one parameter, called while the maker still runs -/
structure LamP (sc scope : Scope) (a : Str) : Prop where
  fk : scope.kind = .function
  fc : scope.isCoroutine = false
  fg : scope.isGenerator = false
  nc : ∀ y ∈ scope.names, y.2 ≠ .cell
  own : scope.names.lookup a = some .local
  one : ∀ y, scope.names.lookup y = some .local → y = a
  cap : ∀ y ∈ scope.names, y.2 = .free → sc.names.lookup y.1 = some .cell ∨ sc.names.lookup y.1 = some .free
def lamPB (sc scope : Scope) (a : Str) : Bool :=
  decide (scope.kind = .function) && !scope.isCoroutine && !scope.isGenerator && decide (scope.names.lookup a = some .local) &&
  scope.names.all fun y => !decide (y.2 = .cell) && (!decide (scope.names.lookup y.1 = some .local) || decide (y.1 = a)) && (!decide (y.2 = .free) || decide (sc.names.lookup y.1 = some .cell) || decide (sc.names.lookup y.1 = some .free))
theorem lamP_by {sc scope : Scope} {a : Str} (h : lamPB sc scope a = true) : LamP sc scope a := by
  unfold lamPB at h
  simp only [Bool.and_eq_true, Bool.or_eq_true, Bool.not_eq_true', decide_eq_true_eq, decide_eq_false_iff_not, List.all_eq_true] at h
  obtain ⟨⟨⟨⟨h1, h2⟩, h3⟩, h4⟩, h5⟩ := h
  refine { fk := h1, fc := h2, fg := h3, own := h4, nc := fun y hy => (h5 y hy).1.1, one := fun y hy => ?_, cap := fun y hy e => ?_ }
  · have := (h5 _ (PySem.mem_of_lookup hy)).1.2
    rcases this with z | z
    · exact absurd hy z
    · exact z
  · rcases (h5 y hy).2 with (z | z) | z
    · exact absurd e z
    · exact .inl z
    · exact .inr z
/-- the lambda's frame -/
abbrev lamE (X : Cx) (scope : Scope) (l f c' : Addr) : Env := PySem.W.envX (X.env.qual ++ "<lambda>") scope l f (.ref c') (cloFrom X.env.cells scope.names [])
/-- the context of its body; the parameter stands ahead of the maker's names -/
def lamC (X : Cx) (A : Around) (s : Shared) (H : Hp) (scope : Scope) (f c' : Addr) (a : Str) : Cx :=
  { prog := X.prog, w := X.w, K := X.K, mg := X.mg, base := X.base, A := A.deeper (lamE X scope s.heap.objs.size f c'), N := a :: X.N, s_0 := s, H_0 := H, env := lamE X scope s.heap.objs.size f c', outer := X.stack,
    stack := lamE X scope s.heap.objs.size f c' :: X.stack, ex := [], fn := fun _ => false, calm := true, pn := [],
    xe := fun e s' => wpAny (model X.prog X.w) (A.deeper (lamE X scope s.heap.objs.size f c')) (leaving (lamE X scope s.heap.objs.size f c') e) (fun _ _ => False) (fun _ _ => False) s' }
section
variable {X : Cx} {pins : List (Addr × Obj)} {σ : L2.St} {H : Hp} {s : Shared} {A : Around}
theorem lam_in {scope : Scope} {f c' : Addr} {a : Str} {x : V} {u : Value} {h₁ : Heap} {tk : Nat} (I : Inv X pins σ H s) (L : LamP X.env.scope scope a) (na : a ∉ X.N) (hd : A.handled = none) (hA : A.frames = some X.stack) (rx : RelV x u)
    (hns : h₁.Ns s.heap.objs.size fun y => [(a, u)].reverse.lookup y) (kp : ∀ b o, s.heap.get? b = some o → h₁.get? b = some o) : Inv (lamC X A s H scope f c' a) [] (some x :: σ) H { s with heap := h₁, toks := tk } := by
  have e0 := I.env0
  have hcap : ∀ y ∈ scope.names, y.2 = .free → ∃ c, X.env.cells.lookup y.1 = some c := fun y hy e => by
    rcases L.cap y hy e with k | k
    · exact I.ok.has _ (.inl k)
    · exact I.ok.has _ (.inr k)
  have cm : ∀ {y c}, (cloFrom X.env.cells scope.names []).lookup y = some c → X.env.cells.lookup y = some c := fun {y c} e => by
    rcases cloFrom_mem (PySem.mem_of_lookup e) with hm | ⟨h1, h2⟩
    · cases hm
    · obtain ⟨c1, hc⟩ := hcap _ h1 rfl
      have hc' : X.env.cells.lookup y = some c1 := hc
      have e2 : c = c1 := by rw [h2, hc'] <;> rfl
      rw [e2]; exact hc'
  have lk : ∀ {y}, scope.names.lookup y = some .free → ∃ c, (cloFrom X.env.cells scope.names []).lookup y = some c := fun {y} hl => by
    have hy : (y, NameKind.free) ∈ scope.names := PySem.mem_of_lookup hl
    exact mem_lookup (cloFrom_has (cells := X.env.cells) (acc := []) hy)
  have ck : ∀ {c : Addr} {v : Option Value}, s.heap.IsCell c v → h₁.IsCell c v := fun {c v} ⟨o, ho, hd⟩ => ⟨o, kp _ _ ho, hd⟩
  have no : ∀ b : Addr, b ∉ (lamC X A s H scope f c' a).ex := fun b z => absurd (show b ∈ ([] : List Addr) from z) (by simp)
  have ok : (lamC X A s H scope f c' a).Ok :=
    { mod := e0.mod, kind := L.fk, glob := rfl, blt := rfl, above := Nat.le_refl _
      inj := fun y z c e1 e2 => I.ok.inj y z c (cm e1) (cm e2)
      has := fun y hy => by
        have hy : scope.names.lookup y = some .cell ∨ scope.names.lookup y = some .free := hy
        rcases hy with hy | hy
        · exact absurd rfl (L.nc _ (PySem.mem_of_lookup hy))
        · exact lk hy
      cab := fun y c z _ => by
        have z : false = true := z
        cases z
      hd := fun _ => hd, frames := Around.frames_deeper hA, stk := .inr ⟨rfl, rfl⟩, exf := fun b z => absurd z (no b), bs := e0.bs, bsz := e0.bsz, noex := fun b _ _ => no b
      exfs := fun b z => absurd z (no b), funs := e0.funs, frf := e0.frf }
  refine { ok := ok, os := rfl, bare := I.bare, base := Un.kept kp, loc := ⟨_, hns, fun i y v e1 e2 e3 => ?_⟩, cell := fun y c e => ?_, free := e0.hok.fresh (Nat.le_refl _), freeC := fun y c e => I.freeC y c (cm e), pin := fun q hq => ?_, hok := e0.hok.kept kp, len := ?_ }
  · have e3 : Vis scope y := e3
    cases i with
    | zero =>
      have : a = y := Option.some.inj e1
      have e2 : x = v := Option.some.inj (Option.some.inj e2)
      subst this; subst e2
      refine ⟨u, rx, .inl ⟨L.own, ?_⟩⟩
      show [(a, u)].reverse.lookup a = some u
      simp [List.lookup]
    | succ i =>
      have e1 : X.N[i]? = some y := e1
      have e2 : σ[i]? = some (some v) := e2
      rcases e3 with k | k | k
      · exact absurd (List.mem_of_getElem? e1) (by rw [L.one y k]; exact na)
      · exact absurd rfl (L.nc _ (PySem.mem_of_lookup k))
      · obtain ⟨m, hn, hl⟩ := I.loc
        have hvis : Vis X.env.scope y := (L.cap _ (PySem.mem_of_lookup k) rfl).elim (fun k => .inr (.inl k)) (fun k => .inr (.inr k))
        obtain ⟨u', r, q⟩ := hl i y v e1 e2 hvis
        obtain ⟨c2, h2⟩ := lk k
        refine ⟨u', r, .inr ⟨.inr k, c2, h2, ?_⟩⟩
        have c1 := cm h2
        rcases q with ⟨k', _⟩ | ⟨_, c3, e', z⟩
        · have k' : X.env.scope.names.lookup y = some .local := k'
          rcases L.cap _ (PySem.mem_of_lookup k) rfl with k2 | k2 <;> rw [show X.env.scope.names.lookup y = _ from k2] at k' <;> cases k'
        · rw [c1] at e'
          cases e'
          exact ck z
  · obtain ⟨v, z⟩ := I.cell y c (cm e)
    exact ⟨v, ck z⟩
  · exact absurd (show q ∈ ([] : List (Addr × Obj)) ++ [] from hq) (by simp)
  · show (some x :: σ).length = (a :: X.N).length
    rw [List.length_cons, List.length_cons, I.len]
theorem lam_turn {j : Nat} {a : Str} {scope : Scope} {params : Arguments} {body : Expr} {f c' : Addr} {pm ctv : Value} {H0 : Hp} {i : Int} {k : PyData} {tb : TE} (hr : Room (j + 1) A) (hA : A.frames = some X.stack) (L : LamP X.env.scope scope a) (na : a ∉ X.N)
    (hf : (f, PySem.W.kla_obj "<lambda>" (X.env.qual ++ "<lambda>") params body scope (cloFrom X.env.cells scope.names []) pm c' ctv) ∈ pins) (hc : H0 c' = some (LamX.CodeO c' (X.env.qual ++ "<lambda>")))
    (hbind : ∀ u, bindArgs (PySem.W.kla_fn "<lambda>" (X.env.qual ++ "<lambda>") params body scope (cloFrom X.env.cells scope.names []) pm (.ref c') ctv) ⟨[u], []⟩ = pure [(a, u)])
    (hbody : ∀ (s : Shared) (H : Hp), Room j (A.deeper (lamE X scope s.heap.objs.size f c')) → PE (lamC X A s H scope f c' a) body tb)
    (ht : ∀ H1, L2.Same H0 H1 → tb (some (.int i) :: σ) H1 fun v H2 => L2.Same H1 H2 ∧ Dp X.K H2 v k) : KeyTurn X A (fun _ _ => False) (.ref f) H0 pins σ i k := by
  intro u H1 s1 more ru sm J
  have of1 := (J.pin _ (List.mem_append_right _ (List.mem_append_left _ hf))).1
  obtain ⟨⟨oc, vs, t, hoc, hdc, hvc⟩, _, _⟩ := J.hok c' _ (sm _ _ hc)
  have rc : codeAny (model X.prog X.w) A (.call (.ref f) ⟨[u], []⟩) (fun r s' => match r with | .ok (.ret v) => CE X.stack X.prog X.w H1 s1 (fun v H2 => L2.Same H1 H2 ∧ Dp X.K H2 v k) v s' | _ => False) s1 := by
    refine PySem.W.kla_callFunE hr.depth of1 rfl L.fc L.fg rfl ⟨c', oc, vs, t, rfl, hoc, hdc, hvc⟩ ?_
    rw [hbind u]
    refine wpAny_pure (wpAny_newFunctionEnv L.nc (fun y hy => by rw [List.mem_singleton.mp hy]; exact L.own) (fun h₁ hns hsb => ⟨J.nolimit.fresh _ hsb, ?_⟩) L.fk)
    show codeAny _ _ (.expr body (lamE X scope s1.heap.objs.size f c')) _ _
    have kp : ∀ b o, s1.heap.get? b = some o → h₁.get? b = some o := fun b o e => hsb.extBut b o (Nat.ne_of_lt (Heap.lt_size e)) (Heap.get?_push_of_some _ e)
    have Jn := lam_in (c' := c') (f := f) (tk := s1.toks + [(a, u)].length) J L na hr.hd hA ru hns kp
    refine PySem.W.kla_codeExpr (wpAny_mono ((hbody s1 H1 (hr.deeper _)).run [] _ _ H1 _ Jn (ht H1 sm)) (fun v s' hq => ?_) fun e s' hq => hq)
    obtain ⟨v', H', J', rv, q⟩ := hq
    exact ⟨v', H', J'.os, J'.bare, J'.base, J'.hok, rv, q⟩
  refine wpAny_call (codeAny_mono rc fun r s' hq => ?_)
  cases r with
  | error e => exact False.elim hq
  | ok fl =>
    cases fl with
    | ret v => exact J.after hq
    | next => exact False.elim hq
    | brk => exact False.elim hq
    | cont => exact False.elim hq
end
/-- what may be sorted: a range from 0 on, a list of integers -/
inductive Src (K : PySem.W.Frag) (H : Hp) : V → List Int → Prop
  | rng {r : Addr} (n : Nat) (h : H r = some (.rng 0 n)) (hn : n ≤ 2 ^ 20) : Src K H (.ref r) ((List.range n).map Int.ofNat)
  | lst {r : Addr} {is : List Int} (h : H r = some (.lst (is.map V.int))) : Src K H (.ref r) is
section
variable {X : Cx} {pins : List (Addr × Obj)} {σ : L2.St} {H H' : Hp} {s : Shared} {A : Around} {E : Value → Shared → Prop}
theorem Src.ext {K : PySem.W.Frag} {v : V} {is : List Int} (e : LamX.ExtN H H') (h : Src K H v is) : Src K H' v is := by
  cases h with
  | rng n h hn => exact .rng n (e _ _ h (fun ps z => by cases z)) hn
  | lst h => exact .lst (e _ _ h (fun ps z => by cases z))
theorem src_col {v : V} {u : Value} {is : List Int} (I : Inv X pins σ H s) (hd : A.handled = none) (h : Src X.K H v is) (ru : RelV v u) (Q' : List Value → Shared → Prop)
    (q : ∀ (its : List Value) (h' : Heap) (tk : Nat), (∀ b o, s.heap.get? b = some o → h'.get? b = some o) → Vals (is.map V.int) its → its.length ≤ sizeLine → Q' its { s with heap := h', toks := tk }) : wpAny (model X.prog X.w) A (collect u) Q' E s := by
  cases h with
  | @rng r n hr hn =>
    obtain rfl : u = Value.ref r := ru
    obtain ⟨t, u, w, e⟩ := (show ObjOk X.prog X.w H s.heap r (.rng 0 n) from I.hok r _ hr)
    refine collect_range (a := 0) (b := n) (c := 1) (n := n) hd e (small_one (by omega) (by omega) (by omega) (by omega)) (by have := rangeSize_nat 0 (n : Int); rw [this]; omega) (by omega) fun h' tk acc kp hi => q _ _ _ kp ?_ ?_
    · have hi' : ItemsOf (fun i v => ∃ t, v = .int (0 + i * 1) t) acc ((n : Int) - 0).toNat := by rw [show ((n : Int) - 0).toNat = n by omega]; exact hi
      have := vals_rg hi'
      unfold rgV at this
      rw [show ((n : Int) - 0).toNat = n by omega] at this
      rw [List.map_map]
      have e2 : (fun (i : Nat) => V.int (0 + (i : Int))) = V.int ∘ Int.ofNat := by funext i; simp
      rw [← e2]; exact this
    · rw [Array.length_toList, hi.1, sizeLine_eq]; omega
  | @lst r _ hl =>
    obtain rfl : u = Value.ref r := ru
    obtain ⟨its, rv, pl, hz⟩ := I.list (SqL.of hl)
    have lz : its.length ≤ sizeLine := by rw [← rv.length]; exact hz
    refine collect_list pl.isList (q its _ s.toks (fun b o e => ?_) rv lz) lz
    rw [Heap.get?_update_ne _ _ _ _ (Nat.ne_of_lt (Heap.lt_size e))]
    exact Heap.get?_push_of_some _ e
theorem cr_range1 : CallR X (.type "range") (fun vs H Q => ∃ n : Nat, vs = [V.int n] ∧ ∀ p, H p = none → Q (.ref p) (upd H p (.rng 0 n))) := by
  intro pins s σ H vs us Q I r h
  obtain ⟨n, rfl, q⟩ := h
  obtain ⟨u1, rfl, t, rfl⟩ := vals1 r
  exact call_range_1 ⟨.ref s.heap.objs.size, upd H s.heap.objs.size (.rng 0 n), I.laid (fun b o e => Heap.get?_push_of_some _ e) (Nat.le_refl _) ⟨_, _, _, Heap.get?_push_size _ rfl⟩, rfl, q _ (I.hok.fresh (Nat.le_refl _))⟩
theorem fp_fun {f c' : Addr} {nm q : Str} {params : Arguments} {body : Expr} {scope : Scope} {cl : List (Str × Addr)} {pm ctv : Value} (I : Inv X pins σ H s) (hf : s.heap.get? f = some (PySem.W.kla_obj nm q params body scope cl pm c' ctv)) (hn : H f = none) (hfr : f ∉ frs X.stack) :
    Inv X (pins ++ [(f, PySem.W.kla_obj nm q params body scope cl pm c' ctv)]) σ H s := I.pins_of fun p hp => (List.mem_append.mp hp).elim (fun z => I.pin p (List.mem_append_right _ z)) fun z => by
  rw [List.mem_singleton.mp z]
  refine ⟨hf, hn, fun e => ?_, fun e => hfr ?_, fun v z => by cases z⟩
  · obtain ⟨m, hns, _⟩ := I.loc
    obtain ⟨ob, es, ep, ho, hd, _⟩ := hns
    have e : f = X.env.locals := e
    rw [← e, hf] at ho
    rw [← Option.some.inj ho] at hd
    cases hd
  · rcases I.ok.stk with k | ⟨k, _⟩
    · rw [k]; exact e
    · rw [k]
      obtain ⟨y, hy, e2⟩ := List.mem_filterMap.mp e
      exact List.mem_filterMap.mpr ⟨y, List.mem_cons_of_mem _ hy, e2⟩
/-- the promise of sorted(e, key=lambda a: body) -/
def tSortL (k0 : PySem.W.Frag) (T : List (Addr × Str)) (te tb : TE) : TE := fun σ H Q => te σ H fun v H1 => ∃ is : List Int, Src k0 H1 v is ∧ LamX.Tabs T H1 ∧
  ∀ H2, LamX.ExtN H1 H2 → LamX.Tabs T H2 → ∃ k : Int → PyData, AllAlike (is.map k) ∧ Sortable (is.map k) ∧ (∀ d ∈ is.map k, d.depth ≤ 8) ∧
    (∀ i ∈ is, ∀ H3, L2.Same H2 H3 → tb (some (.int i) :: σ) H3 fun v H4 => L2.Same H3 H4 ∧ Dp k0 H4 v (k i)) ∧
    ∀ H3 p, L2.Same H2 H3 → H3 p = none → Q (.ref p) (upd H3 p (.lst ((is.mergeSort (dataLe false k)).map V.int)))
theorem pe_sortL {T : List (Addr × Str)} {c P : Addr} {j : Nat} {a : Str} {e : Expr} {te tb : TE} {params : Arguments} {body : Expr} {scope : Scope} {p lpos kpos pos : Pos} (he : PE X e te) (hg : Gl X "sorted") (hm : X.mg "sorted" = none)
    (TB : LamX.TabB X.base X.mg c P) (hcode : X.env.code = .ref c) (hmT : (P, X.env.qual ++ "<lambda>") ∈ T) (hu : ∀ p ∈ T, p.1 = P → p.2 = X.env.qual ++ "<lambda>") (hr : Room (j + 3) X.A) (L : LamP X.env.scope scope a) (na : a ∉ X.N)
    (hdef : defaultsOf params X.env = ([], [])) (hbind : ∀ (q : Str) (cl : List (Str × Addr)) (pm cv ctv u : Value), bindArgs (PySem.W.kla_fn "<lambda>" q params body scope cl pm cv ctv) ⟨[u], []⟩ = pure [(a, u)])
    (hbody : ∀ (s : Shared) (H : Hp) (f c' : Addr), Room j (X.A.in1.in1.deeper (lamE X scope s.heap.objs.size f c')) → PE (lamC X X.A.in1.in1 s H scope f c' a) body tb)
    (hv : bootBuiltins "sorted" = some (.builtin "sorted") := by rfl)
    (hs : backTo pos (starEach [e] X.env) = (false, eval e X.env) :: backTo pos (starEach [] X.env) := by rfl) (hpl : (backTo pos (starEach [e] X.env)).any (·.1) = false := by rfl) :
    PE X (.Call (.Name "sorted" p) [e] [⟨some "key", .Lambda params body scope lpos, kpos⟩] pos) (tSortL X.K T te tb) := by
  have hcap : ∀ y ∈ scope.names, y.2 = .free → X.Ok → ∃ c, X.env.cells.lookup y.1 = some c := fun y hy e ok => by
    rcases L.cap y hy e with k | k
    · exact ok.has _ (.inl k)
    · exact ok.has _ (.inr k)
  refine ⟨fun pins s σ H Q I h => ?_⟩
  refine wpAny_Call_Name_kw (ld_blt I hg hm hv ?_ (by decide) (by decide))
  refine callWith_kw ?_ hs hpl (by rfl) (by rfl)
  rw [hs]
  refine Calls.spliced_cons (thn (he.run pins s σ H _ I h) fun u s1 ⟨v, H1, I1, r1, q1⟩ => ?_)
  refine Calls.spliced_nil ?_
  obtain ⟨is, src, hT, q1⟩ := q1
  show wpAny _ _ (evalAll ((do let v ← eval (.Lambda params body scope lpos) X.env; standAt pos; pure v) :: [])) _ _ s1
  refine wpAny_evalAll_cons (wpAny_bind ?_)
  refine LamX.lam_make2 I1 TB hcode hmT hu hT hdef (fun y hy e => hcap y hy e I1.ok) fun f c' pm ctv H2 s2 I2 eN T2 hf hfn hfr hco => ?_
  refine wpAny_bind (wpAny_standAt (wpAny_pure ?_))
  refine wpAny_evalAll_nil ?_
  obtain ⟨k, k1, k2, k3, k4, k5⟩ := q1 H2 eN T2
  have I3 := fp_fun I2 hf hfn hfr
  obtain ⟨r, rfl, rfl⟩ : ∃ r, v = .ref r ∧ u = .ref r := by
    cases src with
    | rng n h hn => exact ⟨_, rfl, r1⟩
    | lst h => exact ⟨_, rfl, r1⟩
  show wpAny (model X.prog X.w) X.A (call (.builtin "sorted") [.ref r] [(Str.ofString "key", .ref f)]) _ _ s2
  have hr1 : Room (j + 1) X.A.in1.in1 := (hr.in1).in1
  refine wpAny_mono (sorted_key (k := k) I3 (fun Q' q => src_col (A := X.A.in1) I3 hr.in1.hd (src.ext eN) rfl Q' q) k1 k2 (fun d hd => by have := k3 d hd; have := hr.un; omega) (fun i hi => ?_) fun H' p sm np => k5 H' p sm np) (fun u s' hq => ?_) fun _ _ z => z
  · refine lam_turn (j := j) (A := X.A.in1.in1) hr1 I3.ok.frames L na (List.mem_append_right _ (List.mem_singleton.mpr rfl)) hco (fun u => hbind _ _ _ _ _ u) (fun s H hr => hbody s H f c' hr) (k4 i hi)
  · obtain ⟨v, H', J, rv, q⟩ := hq
    exact ⟨v, H', J.unpinned, rv, q⟩
end
end SrK

/-! What the proofs of several laws share: own errors, isinstance of them, calls that may raise or go by keywords, try with named clauses, tables of code objects, the source of draws. -/
namespace Own
open PySem PySem.Spec PyProof.Rows L2
open C8 (Cal pe_c pe_gc pss_cut)
/-! ### own errors -/
/-- what the text says of an error's class: its name x, its class object at C, its __init__ at fI -/
structure ExT (K : PySem.W.Frag) (mg : Str → Option Value) (x : Str) (C fI : Addr) : Prop where
  oex : OexC K C
  iC : PySem.W.findIn K (.ref C) "__init__" = some (some (.ref fI))
  tI : PySem.W.typeIn K (.ref fI) = some (.type "function")
  gC : mg x = some (.ref C)
  xf : XfC K C
  noW : PySem.W.findIn K (.ref C) "word" = some none
/-- the fresh exception at a gets its word y: its dict stands at d -/
def exoHp (H : Hp) (a C d : Addr) (y : V) : Hp := upd (upd H d (exd d [("word", y)])) a (exo a C (some d))
def spInit (K : PySem.W.Frag) : Sp := fun vs H Q _ => ∃ (a C : Addr) (y : V), vs = [.ref a, y] ∧ OexC K C ∧ PySem.W.findIn K (.ref C) "word" = some none ∧ H a = some (exo a C none) ∧ ∀ d, H d = none → d ≠ a → Q .non (exoHp H a C d y)
/-- the class x at C with its __init__ -/
structure ExK (P : Program) (w : World) (K : PySem.W.Frag) (mg : Str → Option Value) (base : Heap) (x : Str) (C : Addr) : Prop where
  ex : ∃ (fI : Addr) (fd : FuncData), ExT K mg x C fI ∧ FnOk P w K mg base CX0 1 fI fd ["self", "word"] (spInit K) ∧ Binds K fd ["self", "word"] []
theorem ExK.T {P : Program} {w : World} {K : PySem.W.Frag} {mg : Str → Option Value} {base : Heap} {x : Str} {C : Addr} (c : ExK P w K mg base x C) : ∃ fI, ExT K mg x C fI := by
  obtain ⟨fI, fd, T, _⟩ := c.ex
  exact ⟨fI, T⟩
theorem ExK.oex {P : Program} {w : World} {K : PySem.W.Frag} {mg : Str → Option Value} {base : Heap} {x : Str} {C : Addr} (c : ExK P w K mg base x C) : OexC K C := c.T.choose_spec.oex
theorem ExK.noW {P : Program} {w : World} {K : PySem.W.Frag} {mg : Str → Option Value} {base : Heap} {x : Str} {C : Addr} (c : ExK P w K mg base x C) : PySem.W.findIn K (.ref C) "word" = some none := c.T.choose_spec.noW
/-- a new exception with the word y -/
def MkE (K : PySem.W.Frag) (C : Addr) (y : V) (H1 : Hp) (Q : XK) : Prop := [y].length ≤ 1000 ∧ ∀ a, H1 a = none → spInit K (.ref a :: ([y] ++ [])) (upd H1 a (exo a C none))
  (fun v H2 => v = .non ∧ ∃ (d : Addr) (fs : List (Str × V)), H2 a = some (exo a C (some d)) ∧ H2 d = some (exd d fs) ∧ H1 d = none ∧ Q (.ref C) (some d) (upd (del H2 a) d (.xd fs))) (fun _ _ _ => False)
theorem mkE_of {K : PySem.W.Frag} {C : Addr} {y : V} {H1 : Hp} {Q : XK} (T : OexC K C) (no : PySem.W.findIn K (.ref C) "word" = some none) (h : ∀ d H2, Same H1 H2 → H2 d = some (.xd [("word", y)]) → Q (.ref C) (some d) H2) : MkE K C y H1 Q := by
  refine ⟨show (1 : Nat) ≤ 1000 from by decide, fun a na => ⟨a, C, y, rfl, T, no, upd_same, fun d nd ne => ⟨rfl, d, _, upd_same, ?_, ?_, h d _ ?_ upd_same⟩⟩⟩
  · unfold exoHp
    rw [upd_ne ne, upd_same]
  · rw [upd_ne ne] at nd; exact nd
  · rw [upd_ne ne] at nd
    intro b o e
    have b1 : b ≠ d := ne_of_none e nd
    have b2 : b ≠ a := ne_of_none e na
    unfold exoHp
    rw [upd_ne b1, del_ne b2, upd_ne b2, upd_ne b1, upd_ne b2]
    exact e
def tNewE (K : PySem.W.Frag) (C : Addr) (te : TE) : L2.St → Hp → XK → Prop := fun σ H Q => te σ H fun y H1 => MkE K C y H1 Q
section
variable {X : Cx} {x : Str} {C : Addr} {e : Expr} {te : TE} {p pos pos2 : Pos} {j : Nat}
theorem pmk_new (c : ExK X.prog X.w X.K X.mg X.base x C) (hr : Room j X.A) (hk : 2 ≤ j) (hg : Gl X x) (he : PE X e te) (hdb : (x == ("__debug__" : Str)) = false := by decide)
    (hs : starEach [e] X.env = (false, eval e X.env) :: starEach [] X.env := by rfl) (hpl : (backTo pos (starEach [] X.env)).any (·.1) = false := by rfl) : PMk X (.Call (.Name x p) [e] [] pos) (tNewE X.K C te) := by
  obtain ⟨fI, fd, T, F, b⟩ := c.ex
  exact pmk_oex T.oex T.iC T.tI F (hr.mono hk) b .nil pass0 hg T.gC (pa_cons he pa_nil hs) hdb hs hpl
/-- raise x(e) -/
def tRaiseE (K : PySem.W.Frag) (W : WX) (C : Addr) (te : TE) : TS := fun _ σ H => tNewE K C te σ H fun cls d H' => W cls d σ H'
theorem ps_raiseE {W : WX} (hc : X.calm = true) (tk : L2.Takes X W) (c : ExK X.prog X.w X.K X.mg X.base x C) (hr : Room j X.A) (hk : 2 ≤ j) (hg : Gl X x) (he : PE X e te) (hdb : (x == ("__debug__" : Str)) = false := by decide)
    (hs : starEach [e] X.env = (false, eval e X.env) :: starEach [] X.env := by rfl) (hpl : (backTo pos (starEach [] X.env)).any (·.1) = false := by rfl) : PS X (.Raise (some (.Call (.Name x p) [e] [] pos)) none pos2) (tRaiseE X.K W C te) :=
  ps_raise hc tk (pmk_new c hr hk hg he hdb hs hpl)
end
/-! ### an exception as a value -/
/-- x(e) as a value -/
def tValE (K : PySem.W.Frag) (C : Addr) (te : TE) : TE := fun σ H Q => te σ H fun y H1 => ∀ a d H2, Same H1 H2 → H1 a = none → H1 d = none → H2 a = some (exo a C (some d)) → H2 d = some (exd d [("word", y)]) → Q (.ref a) H2
section
variable {X : Cx} {x : Str} {C : Addr} {e : Expr} {te : TE} {p pos : Pos} {j : Nat}
theorem pe_newE (c : ExK X.prog X.w X.K X.mg X.base x C) (hr : Room j X.A) (hk : 2 ≤ j) (hg : Gl X x) (ha : PE X e te) (hdb : (x == ("__debug__" : Str)) = false := by decide)
    (he : starEach [e] X.env = (false, eval e X.env) :: starEach [] X.env := by rfl) (hpl : (backTo pos (starEach [] X.env)).any (·.1) = false := by rfl) : PE X (.Call (.Name x p) [e] [] pos) (tValE X.K C te) := by
  obtain ⟨fI, fd, T, F1, hb⟩ := c.ex
  have T0 := T.oex
  obtain ⟨nm, q, N, bs, bm, sn, sub, ab, col, dd, k0, k1, k2, k3, k5, hC, hbm⟩ := T0.cls
  refine ⟨fun pins s σ H Q I h => ?_⟩
  refine wpAny_Call_Name_kw (ld_glob I hg T.gC ?_ hdb)
  refine PySem.W.callWith_K (h₀ := X.base) I.ok.mod.kin T0.kC (thn ((pa_cons ha pa_nil he).run pos pins s σ H (fun vs H1 => match vs with | [y] => ∀ a d H2, Same H1 H2 → H1 a = none → H1 d = none → H2 a = some (exo a C (some d)) → H2 d = some (exd d [("word", y)]) → Q (.ref a) H2 | _ => False) I h) fun us s1 ⟨vs, H1, I1, r1, q1⟩ => ⟨I1.kIn, ?_⟩) he hpl
  obtain ⟨y, rfl⟩ : ∃ y, vs = [y] := by
    match vs, q1 with
    | [y], _ => exact ⟨y, rfl⟩
  replace q1 : ∀ a d H2, Same H1 H2 → H1 a = none → H1 d = none → H2 a = some (exo a C (some d)) → H2 d = some (exd d [("word", y)]) → Q (.ref a) H2 := q1
  show wpAny _ _ (call (.ref C) us) _ _ _
  obtain ⟨hp, g, dr, tk, os⟩ := s1
  have hsz : hp.objs.size ≤ hp.objs.size + 1 := Nat.le_succ _
  have hn : H1 (hp.objs.size + 1) = none := I1.hok.fresh hsz
  have kk : ∀ b o, hp.get? b = some o → ((hp.push (PySem.W.kdv_tup us)).push (PySem.HandSPX.excO C hp.objs.size)).get? b = some o := fun b o e => Heap.get?_push_of_some _ (Heap.get?_push_of_some _ e)
  have hget : ((hp.push (PySem.W.kdv_tup us)).push (PySem.HandSPX.excO C hp.objs.size)).get? (hp.objs.size + 1) = some (PySem.HandSPX.excO C hp.objs.size) := by heap_get
  have I2 : Inv X pins σ (upd H1 (hp.objs.size + 1) (exo (hp.objs.size + 1) C none)) ⟨(hp.push (PySem.W.kdv_tup us)).push (PySem.HandSPX.excO C hp.objs.size), g, dr, tk, os⟩ :=
    I1.laid (t' := tk) (a := hp.objs.size + 1) (o := exo (hp.objs.size + 1) C none) (h' := (hp.push (PySem.W.kdv_tup us)).push (PySem.HandSPX.excO C hp.objs.size)) kk hsz (exo_ok hget)
  have r2 : Vals [V.ref (hp.objs.size + 1), y] (Value.ref (hp.objs.size + 1) :: us) := .cons rfl r1
  have hl : (Value.ref (hp.objs.size + 1) :: us ++ []).length = 2 := by rw [List.append_nil]; exact r2.length.symm
  have hus : us.length ≤ sizeLine := by
    rw [← Paired.length r1, sizeLine_eq]
    exact (by decide : 1 ≤ 16777216)
  have hsp : spInit X.K [V.ref (hp.objs.size + 1), y] (upd H1 (hp.objs.size + 1) (exo (hp.objs.size + 1) C none)) (fun v H2 => v = .non ∧ ∃ d, H1 d = none ∧ Same H1 H2 ∧ H2 (hp.objs.size + 1) = some (exo (hp.objs.size + 1) C (some d)) ∧ H2 d = some (exd d [("word", y)])) (fun _ _ _ => False) := by
    refine ⟨_, C, y, rfl, T0, T.noW, upd_same, fun d nd ne => ⟨rfl, d, ?_, ?_, upd_same, ?_⟩⟩
    · rw [upd_ne ne] at nd; exact nd
    · rw [upd_ne ne] at nd
      intro b o e
      have b1 : b ≠ d := ne_of_none e nd
      have b2 : b ≠ hp.objs.size + 1 := ne_of_none e hn
      unfold exoHp
      rw [upd_ne b2, upd_ne b1, upd_ne b2]
      exact e
    · unfold exoHp
      rw [upd_ne ne, upd_same]
  refine wpAny_call (PySem.HandSPX.call_own F.excBase_ValueError (fun Y => PySem.HandSPX.refsVE_contains Y bm hbm) (I1.kIn _ _ hC) (PySem.W.looks_findIn I1.kIn T.iC) (fun self => PySem.W.bind_fn I1.kIn self T.tI) hus
    (codeAny_mono ((F1.mono (show 1 ≤ 1 from Nat.le_refl _)).run _ X.stack _ _ ⟨Value.ref (hp.objs.size + 1) :: us, []⟩ (Value.ref (hp.objs.size + 1) :: us ++ []) _ _ (fun _ _ _ => False) ((hr.mono hk).make C us []) (I2.env0.make C us []) (hb _ (Value.ref (hp.objs.size + 1) :: us) I2.kIn hl) (by rw [List.append_nil]; exact r2) hsp) fun r s' hq' => ?_))
  cases r with
  | error er => exact (show False from hq').elim
  | ok fl =>
    cases fl with
    | ret u =>
      obtain ⟨v, H2, os2, bare2, un2, hok2, rv, ev, d, nd, sm, ea, ed⟩ := hq'
      subst ev
      obtain ⟨h2, g2, d2, t2, os'⟩ := s'
      refine ⟨rv, ?_⟩
      have J := I2.call' (ch := []) os2 un2 hok2 bare2 (fun b z => absurd z (by simp))
      exact ⟨.ref (hp.objs.size + 1), H2, J, rfl, q1 _ d H2 sm hn nd ea ed⟩
    | next => exact False.elim hq'
    | brk => exact False.elim hq'
    | cont => exact False.elim hq'
end
theorem same_upd {H : Hp} {p : Addr} {o : HO} (h : H p = none) : Same H (upd H p o) := fun b x e => by
  rw [upd_ne (ne_of_none e h)]; exact e
theorem same_at {H0 H : Hp} {D : Addr} {o : HO} (s : Same H0 H) (n : H0 D = none) : Same H0 (upd H D o) := fun b x e => by
  rw [upd_ne (ne_of_none e n)]; exact s _ _ e
theorem sq_tup {K : PySem.W.Frag} {H : Hp} {p : Addr} {xs : List V} (h : H p = some (.tup xs)) : SqT K H p xs := .inl (.inl h)
theorem sq_lst {K : PySem.W.Frag} {H : Hp} {p : Addr} {xs : List V} (h : H p = some (.lst xs)) : SqL K H p xs := .inl (.inl h)
theorem ne_of {H : Hp} {a b : Addr} {x y : HO} (ha : H a = some x) (hb : H b = some y) (n : x ≠ y) : a ≠ b := fun z => by
  rw [z, hb] at ha
  exact n (Option.some.inj ha).symm
/-! ### isinstance, of own errors too -/
structure IsE (K : PySem.W.Frag) (C : Addr) : Prop where
  cl : (PySem.W.clsIn K C).isSome = true
  ga : PySem.W.findIn K (.ref C) "__getattribute__" = some (some (.builtin "BaseException.__getattribute__"))
  gg : PySem.W.findIn K (.ref C) "__getattr__" = some none
  exC : PySem.W.subIn K (.ref C) (.type "BaseException") = some true
  ha : PySem.W.findIn K (.ref C) "__class__" = some (some (.builtin "object.__class__"))
  hn : PySem.W.specialIn K (.builtin "object.__class__") "__get__" = some (some (.builtin "getset_descriptor.__get__"))
  htk : PySem.W.takesIn K (.builtin "object.__class__") = some true
  hm : PySem.W.mroIn K C (.type "object") = some true
inductive TyE (K : PySem.W.Frag) (H : Hp) : V → Value → Prop where
  | base {x : V} {t : Value} (h : TyX K H x t) : TyE K H x t
  | exc {a C d : Addr} {fs : List (Str × V)} (T : IsE K C) (e : H a = some (exo a C (some d))) (f : H d = some (exd d fs)) : TyE K H (.ref a) (.ref C)
def rIsE (K : PySem.W.Frag) : List V → Hp → VK → Prop := fun xs H Q => ∃ (x : V) (t : Value) (n : String) (b : Bool), xs = [x, .ty n] ∧ TyE K H x t ∧ PySem.W.kitOne K t (.type n) = some b ∧ Q (.bl b) H
section
variable {X : Cx}
theorem call_isE : CallR X (.builtin "isinstance") (rIsE X.K) := by
  intro pins s σ H xs us Q I r h
  obtain ⟨x, t, n, b, rfl, ty, e, q⟩ := h
  cases ty with
  | base ty => exact call_isi pins s σ H _ us Q I r ⟨x, .ty n, t, .type n, b, rfl, .ty n, ty, e, q⟩
  | @exc a C d fs T ea ed =>
    obtain ⟨u1, u2, rfl, r1, r2⟩ := vals2 r
    cases (show u1 = Value.ref a from r1)
    cases (show u2 = Value.type n from r2)
    obtain ⟨t1, ho⟩ := exo_at I.hok ea
    obtain ⟨mA, ⟨od, es, ep, hd, hrest⟩, rel⟩ := exd_at I.hok ed
    have J : PySem.W.InstAt s.heap a { cls := .ref C, dict := some d, data := .fields #[.ref t1, .none, .none, .none, .bool false, .none] } C (some od) := ⟨ho, rfl, rfl, hd⟩
    exact PySem.W.kia_one (PySem.W.kitx_exc T.cl T.ga T.gg T.exC T.ha T.hn T.htk T.hm) I.kIn J e (fun z => nomatch z) fun tk => ⟨.bl b, H, I.tok tk, rfl, q⟩
/-! ### // by any divisor but 0 -/
def CDivX (_ j : Int) : Prop := j ≠ 0 ∧ j.natAbs.log2 < 9000
theorem op_fdivX : OpR X (binaryOp .FloorDiv) (rI CDivX fun i j => .int (i.fdiv j)) := opI fun i j _ _ _ _ _ hc q => floordiv_int hc.1 q (.inl (PyProof.noPylong_of_log2 hc.2))
end
theorem divx_ok {i j : Int} {b : Nat} (h : j ≠ 0) (hb : j.natAbs < 2 ^ b) (h0 : 0 < b) (h9 : b ≤ 9000) : CDivX i j := ⟨h, Nat.lt_of_lt_of_le (PySem.Flt.log2_lt_of h0 hb) h9⟩
/-! ### calls -/
/-- a def that may raise -/
structure CalX (P : Program) (w : World) (K : PySem.W.Frag) (mg : Str → Option Value) (base : Heap) (k : Nat) (x : Str) (sp : Sp) : Prop where
  ex : ∃ (f : Addr) (fd : FuncData) (ps : List Str), FnOk P w K mg base (L2.CX P w) k f fd ps sp ∧ mg x = some (.ref f) ∧ PySem.W.keepIn K (.ref f) = true ∧ Binds K fd ps []
section
variable {X : Cx} {k j : Nat} {x : Str} {sp : Sp} {e : Expr} {es : List Expr} {t : TA} {p pos : Pos}
/-- x(..), where x raises nothing -/
theorem pe_x (c : CalX X.prog X.w X.K X.mg X.base k x sp) (hr : Room j X.A) (hk : k ≤ j) (hg : Gl X x) (ha : PA X (e :: es) t)
    (hdb : (x == ("__debug__" : Str)) = false := by decide) (he : starEach (e :: es) X.env = (false, eval e X.env) :: starEach es X.env := by rfl) (hpl : (backTo pos (starEach es X.env)).any (·.1) = false := by rfl) :
    PE X (.Call (.Name x p) (e :: es) [] pos) (tCall sp [] L2.E0 t) := by
  obtain ⟨f, fd, ps, F, hm, kp, b⟩ := c.ex
  exact pe_call F (hr.mono hk) hg hm kp b .nil passL ha hdb he hpl
/-- x(..), where what x raises goes on as E -/
theorem pe_xE {E : XK} (hx : Passes (L2.CX X.prog X.w) X E) (c : CalX X.prog X.w X.K X.mg X.base k x sp) (hr : Room j X.A) (hk : k ≤ j) (hg : Gl X x) (ha : PA X (e :: es) t)
    (hdb : (x == ("__debug__" : Str)) = false := by decide) (he : starEach (e :: es) X.env = (false, eval e X.env) :: starEach es X.env := by rfl) (hpl : (backTo pos (starEach es X.env)).any (·.1) = false := by rfl) :
    PE X (.Call (.Name x p) (e :: es) [] pos) (tCall sp [] E t) := by
  obtain ⟨f, fd, ps, F, hm, kp, b⟩ := c.ex
  exact pe_call F (hr.mono hk) hg hm kp b .nil hx ha hdb he hpl
end
/-- two, exchanged -/
def sw {α : Type} : List α → List α
  | [x, y] => [y, x]
  | _ => []
/-- a call with keywords alone -/
structure CalK (P : Program) (w : World) (K : PySem.W.Frag) (mg : Str → Option Value) (base : Heap) (k : Nat) (x : Str) (ks : List Str) (gV : List V → List V) (sp : Sp) : Prop where
  ex : ∃ (f : Addr) (fd : FuncData) (ps : List Str) (gu : List Value → List Value) (CX : CXT), (CX = CX0 ∨ CX = L2.CX P w) ∧ FnOk P w K mg base CX k f fd ps sp ∧ mg x = some (.ref f) ∧ PySem.W.keepIn K (.ref f) = true ∧
    (∀ (s : Shared) (ws : List Value), (gu ws).length = ps.length → BindsTo s fd ⟨[], ks.zip ws⟩ (ps.zip (gu ws))) ∧ ∀ (zs : List V) (ws : List Value), Vals zs ws → Vals (gV zs) (gu ws)
def tKw (sp : Sp) (gV : List V → List V) (E : XK) (tk : TA) : TE := fun σ H Q => tk σ H fun zs H1 => sp (gV zs) H1 Q E
section
variable {X : Cx} {k j : Nat} {x : Str} {ks : List Str} {gV : List V → List V} {sp : Sp} {p pos : Pos} {kws : List Keyword} {tk : TA}
theorem pe_kwE {E : XK} (hx : Passes (L2.CX X.prog X.w) X E) (c : CalK X.prog X.w X.K X.mg X.base k x ks gV sp) (hr : Room j X.A) (hk : k ≤ j) (hg : Gl X x) (hkw : PK X kws tk)
    (hall : (backToKw pos (keywordEach kws X.env)).all (·.1.isSome) = true := by rfl) (hks : (backToKw pos (keywordEach kws X.env)).filterMap (·.1) = ks := by rfl) (hdb : (x == ("__debug__" : Str)) = false := by decide)
    (hpl : ((backTo pos (starEach [] X.env)).any (·.1) || (backToKw pos (keywordEach kws X.env)).any (·.1.isNone)) = false := by rfl) : PE X (.Call (.Name x p) [] kws pos) (tKw sp gV E tk) := by
  obtain ⟨f, fd, ps, gu, CX, hC, F, hm, kp, bt, rel⟩ := c.ex
  refine ⟨fun pins s1 σ H Q I hh => wpAny_Call_Name_kw (ld_glob I hg hm ?_ hdb)⟩
  refine PySem.W.callWith_KW0 (h₀ := X.base) I.ok.mod.kin kp hall (thn (hkw.run pos pins s1 σ H _ I hh) fun ws s2 hz => ?_) hpl
  obtain ⟨zs, H2, I2, rz, q2⟩ := hz
  refine ⟨I2.kIn, ?_⟩
  rw [hks]
  have r2 := rel zs ws rz
  have hl : (gu ws).length = ps.length := r2.length.symm.trans (F.len _ _ _ _ q2)
  refine wpAny_call (codeAny_mono ((F.mono hk).run X.A X.stack s2 H2 ⟨[], ks.zip ws⟩ (gu ws) (gV zs) Q E hr I2.env0 (bt s2 ws hl) r2 q2) fun r s3 hq => ?_)
  cases r with
  | error e =>
    rcases hC with rfl | rfl
    · exact (show False from hq).elim
    · exact hx pins σ H2 s2 e s3 I2 hq
  | ok fl =>
    cases fl with
    | ret u => exact I2.after hq
    | next => exact hq.elim
    | brk => exact hq.elim
    | cont => exact hq.elim
theorem pe_kw (c : CalK X.prog X.w X.K X.mg X.base k x ks gV sp) (hr : Room j X.A) (hk : k ≤ j) (hg : Gl X x) (hkw : PK X kws tk)
    (hall : (backToKw pos (keywordEach kws X.env)).all (·.1.isSome) = true := by rfl) (hks : (backToKw pos (keywordEach kws X.env)).filterMap (·.1) = ks := by rfl) (hdb : (x == ("__debug__" : Str)) = false := by decide)
    (hpl : ((backTo pos (starEach [] X.env)).any (·.1) || (backToKw pos (keywordEach kws X.env)).any (·.1.isNone)) = false := by rfl) : PE X (.Call (.Name x p) [] kws pos) (tKw sp gV L2.E0 tk) := pe_kwE passL c hr hk hg hkw hall hks hdb hpl
end
/-- a def of the text, its name, how it binds -/
structure Df (K : PySem.W.Frag) (mg : Str → Option Value) (x : Str) (st : Stmt) (ps : List Str) : Prop where
  ex : ∃ f fd, Fun K x x st f fd ∧ mg x = some (.ref f) ∧ Binds K fd ps []
section
variable {P : Program} {w : World} {K : PySem.W.Frag} {mg : Str → Option Value} {base : Heap}
theorem cal_of {x : Str} {st : Stmt} {ps : List Str} {k : Nat} {sp : Sp} (D : Df K mg x st ps) (h : ∀ f fd, Fun K x x st f fd → FnOk P w K mg base CX0 k f fd ps sp) : Cal P w K mg base k x sp [] := by
  obtain ⟨f, fd, F, hm, b⟩ := D.ex
  exact ⟨f, fd, ps, [], h f fd F, hm, F.kp, b, .nil⟩
theorem calx_of {x : Str} {st : Stmt} {ps : List Str} {k : Nat} {sp : Sp} (D : Df K mg x st ps) (h : ∀ f fd, Fun K x x st f fd → FnOk P w K mg base (L2.CX P w) k f fd ps sp) : CalX P w K mg base k x sp := by
  obtain ⟨f, fd, F, hm, b⟩ := D.ex
  exact ⟨f, fd, ps, h f fd F, hm, F.kp, b⟩
end
/-! ### several clauses, each with the same name -/
abbrev Suite := Addr → Value → Option Addr → TS
/-- the ends behind a clause: its name is gone -/
def offName (i : Nat) (D : Ends) : Ends := { nx := fun σ H => D.nx (σ.set i none) H, rt := D.rt, bk := fun σ H => D.bk (σ.set i none) H, ct := fun σ H => D.ct (σ.set i none) H }
def wNamed (K : PySem.W.Frag) (i : Nat) (Wout : WX) (D : Ends) : List (Value × Suite) → WX
  | [] => Wout
  | z :: r => fun cls d σ H => ∃ b, PySem.W.exmOne K cls z.1 = some b ∧ (b = true → ∀ a, H a = none → i < σ.length → z.2 a cls d (offName i D) (σ.set i (some (.ref a))) H) ∧ (b = false → wNamed K i Wout D r cls d σ H)
inductive Clauses (X : Cx) (n : Str) : List ExceptHandler → List (Value × Suite) → Prop
  | nil : Clauses X n [] []
  | cons {x : Str} {c : Value} {ts : Suite} {b : Stmt} {bs : List Stmt} {p q : Pos} {hs : List ExceptHandler} {l : List (Value × Suite)} (nm : Names X x c)
      (su : ∀ (a : Addr) (oe : Obj) (cls : Value) (d : Option Addr) (pn : List (Addr × Obj)), Zc cls d oe → (∃ vs, oe.data = .fields vs) → PSs (X.suite a ((a, oe) :: pn)) (b :: bs) (ts a cls d)) (r : Clauses X n hs l) :
      Clauses X n (.ExceptHandler (some (.Name x p)) (some n) (b :: bs) q :: hs) ((c, ts) :: l)
section
variable {X : Cx} {pins : List (Addr × Obj)} {n : Str} {i : Nat} {Wout : WX} {D : Ends} {body : List Stmt} {tb : WX → TS} {pos : Pos}
/-- what flies has met no clause yet -/
theorem clauses_go (hs : X.stack = X.env :: X.outer) (hf : X.env.frame = some X.env.locals) (hN : X.N.Nodup) (hi : X.N[i]? = some n) (hl : X.env.kindOf n = some .local) (tk : L2.Takes X Wout)
    {a : Addr} {B : Heap} {cls : Value} {d : Option Addr} {σ : L2.St} {H : Hp} {s : Shared} {sI : Shared} (ok : X.Ok) (J : Inv X pins σ H sI) (nb : ∀ b o, sI.heap.get? b = some o → b ∉ frs X.stack → B.get? b = some o) (os : s.os = sI.os) (ag : AllBare s.gens) (na : H a = none)
    {h3 : Heap} (fl3 : HandSPX.FlyingZ B (X.env :: X.outer) a (Zc cls d) h3) (up3 : sI.heap.UpToSlots h3) : ∀ {hds : List ExceptHandler} {l : List (Value × Suite)}, Clauses X n hds l → wNamed X.K i Wout D l cls d σ H →
      wpAny (model X.prog X.w) X.A (handleBy (.ref a) X.env hds) (SP X pins D) X.xe { s with heap := h3 } := by
  have hfr : X.A.frames = some (X.env :: X.outer) := by rw [ok.frames, hs]
  have J3 : Inv X pins σ H { s with heap := h3 } := J.landed nb fl3.1 up3 os ag
  obtain ⟨oe, vs, he, hz, hd⟩ := id fl3.there
  have apart : a ∉ frs (X.env :: X.outer) := fun hm => by
    obtain ⟨_, o, e, hnf⟩ := fl3.2.2.1.mem hm
    rw [he] at e
    cases e
    exact hnf _ hd
  have nL : a ≠ X.env.locals := fun z => apart (List.mem_filterMap.mpr ⟨X.env, List.mem_cons_self, by rw [hf, z]⟩)
  have nF : a ∉ X.fs := fun hm => by
    obtain ⟨e, q1, q2⟩ := List.mem_filterMap.mp hm
    exact apart (List.mem_filterMap.mpr ⟨e, List.mem_cons_of_mem _ q1, q2⟩)
  have S3 := J3.suite he hd na nL nF
  have hlt : i < σ.length := by rw [J.len]; exact (List.getElem?_eq_some_iff.mp hi).1
  have LT : PySem.W.Looks (model X.prog X.w) h3 (typeOf (.ref a)) cls := fun A Q E s k q => wpAny_typeOf_ref (k _ _ he) (by rw [hz.1]; exact q)
  intro hds l C
  induction C with
  | nil =>
    intro w
    refine wpAny_handleBy_nil ?_
    obtain ⟨_, _, _, oe', vs', T, _, _, e1, _, e2, e3, _⟩ := id fl3
    unfold PySem.passOn
    refine wpAny_bind (wpAny_field e1 e2 e3 ?_)
    rw [if_neg (show ¬ ((Value.ref T == Value.none) = true) from by simp)]
    have fin : wpAny (model X.prog X.w) X.A (setFlight (.ref a) X.env.frame) (fun _ s4 => wpAny (model X.prog X.w) X.A (throw (.ref a) : Sem Flow) (SP X pins D) X.xe s4) X.xe { s with heap := h3 } := by
      rw [hf]
      exact HandSPX.setFlight_upZ fl3 fun h4 x4 up4 => wpAny_throw (tk _ _ ⟨a, B, sI, pins, σ, H, cls, d, rfl, J, nb, up3.trans up4, .inr (.inr (by rw [hs]; exact x4)), na, os, ag, w⟩)
    first
      | exact wpAny_bind (wpAny_pure (wpAny_bind fin))
      | exact wpAny_bind fin
  | @cons x c ts b0 bs p q hds' l' nm su r ih =>
    intro w
    obtain ⟨b, hb, yes, no⟩ := w
    refine wpAny_handleBy_cons (codeAny_handlers_test ?_) (by intro z; cases z)
    have LM := PySem.W.exm_one (M := model X.prog X.w) J3.kIn LT hb
    have test : ∀ {Q : Value → Shared → Prop} {E : Value → Shared → Prop}, Q c { s with heap := h3 } → wpAny (model X.prog X.w) (X.A.mark (some (.ref a))) (eval (.Name x p) X.env) Q E { s with heap := h3 } := fun {Q E} z => by
      obtain ⟨hg, hg2, hm | ⟨hm, hv, hnn⟩⟩ := nm
      · exact ld_glob (X := X.suite a ((a, oe) :: (X.pn ++ pins))) S3 hg hm z hg2
      · exact ld_blt (X := X.suite a ((a, oe) :: (X.pn ++ pins))) S3 hg hm hv z hnn hg2
    refine test (LM.here ?_)
    cases b with
    | false => exact ih (no rfl)
    | true =>
      refine codeAny_handlers_suite_as (HandSPX.lands_againZ fl3 fun h4 fl4 up4 => ?_)
      have J4 : Inv X pins σ H { s with heap := h4 } := J.landed nb fl4.1 (up3.trans up4) os ag
      obtain ⟨oe4, vs4, he4, hz4, hd4⟩ := fl4.there
      refine store_ok (X := X.suite a ((a, oe4) :: (X.pn ++ pins))) (v := .ref a) (J4.suite he4 hd4 na nL nF) hN hi (.inl hl) rfl (fun s5 S5 => ?_) (.inr hl)
      refine wpAny_mono ((su a oe4 cls d (X.pn ++ pins) hz4 ⟨_, hd4⟩).run [] s5 _ H _ S5 (yes rfl a na hlt)) (fun fl s6 z => ?_) (fun _ _ z => False.elim z)
      have off : ∀ {σ6 : L2.St} {H6 : Hp} {Q : Shared → Prop}, Inv (X.suite a ((a, oe4) :: (X.pn ++ pins))) [] σ6 H6 s6 → (∀ s7, Inv X pins (σ6.set i none) H6 s7 → Q s7) →
          wpAny (model X.prog X.w) X.A (do bindName X.env n .none; unbindBehindTheSuite X.env n q) (fun _ s7 => Q s7) X.xe s6 := fun {σ6 H6 Q} S6 k => gone_ok (S6.unsuite ok) hN hi hl k
      cases fl with
      | next =>
        obtain ⟨σ6, H6, S6, k⟩ := z
        exact off S6 fun s7 J7 => ⟨_, _, J7, k⟩
      | brk =>
        obtain ⟨σ6, H6, S6, k⟩ := z
        exact off S6 fun s7 J7 => ⟨_, _, J7, k⟩
      | cont =>
        obtain ⟨σ6, H6, S6, k⟩ := z
        exact off S6 fun s7 J7 => ⟨_, _, J7, k⟩
      | ret u =>
        obtain ⟨v6, σ6, H6, S6, r6, k⟩ := z
        exact off S6 fun s7 J7 => ⟨_, _, _, J7, r6, k⟩
theorem ps_try_named {h0 : ExceptHandler} {hds : List ExceptHandler} {l : List (Value × Suite)} (hs : X.stack = X.env :: X.outer) (hf : X.env.frame = some X.env.locals) (hN : X.N.Nodup) (hi : X.N[i]? = some n) (hl : X.env.kindOf n = some .local) (tk : L2.Takes X Wout)
    (hb : ∀ (W : WX) (pn : List (Addr × Obj)) (xe : Value → Shared → Prop), L2.Takes (X.tr pn xe) W → PassesOwn (model X.prog X.w) X.A X.env xe → PSs (X.tr pn xe) body (tb W))
    (C : Clauses X n (h0 :: hds) l) : PS X (.Try body (h0 :: hds) [] [] pos) (fun D σ H => tb (wNamed X.K i Wout D l) D σ H) := by
  refine ⟨fun pins s σ H D I h => ?_⟩
  have ok := I.ok
  have hfr : X.A.frames = some (X.env :: X.outer) := by rw [ok.frames, hs]
  refine wpAny_Try_except (wpAny_mono ((hb (wNamed X.K i Wout D l) (X.pn ++ pins) (fun e s₁ => wpAny (model X.prog X.w) X.A (noteFrame e X.env) (fun _ s₂ => wpAny (model X.prog X.w) X.A (setFlight e none) (fun _ s₃ =>
    wpAny (model X.prog X.w) X.A (handleBy e X.env (h0 :: hds)) (SP X pins D) X.xe s₃) X.xe s₂) X.xe s₁) (fun u s' xx => ?_) PassesOwn.looking).run [] s σ H D (I.toTry _) h) (fun f s1 z => ?_) (fun e s1 z => z))
  · obtain ⟨a, B, sI, pins', σ', H', cls, d, rfl, J', nb, up, sky, na, os, ag, w⟩ := xx
    refine Sky.land Zc.steady hfr hf (by rw [← hs]; exact sky) fun h3 fl3 up3 => ?_
    exact clauses_go hs hf hN hi hl tk ok (J'.ofTry ok) nb os ag na fl3 (up.trans up3) C w
  · cases f with
    | next =>
      obtain ⟨σ', H', J', q⟩ := z
      exact wpAny_execs_nil ⟨σ', H', J'.ofTry ok, q⟩
    | brk =>
      obtain ⟨σ', H', J', q⟩ := z
      exact ⟨σ', H', J'.ofTry ok, q⟩
    | cont =>
      obtain ⟨σ', H', J', q⟩ := z
      exact ⟨σ', H', J'.ofTry ok, q⟩
    | ret u =>
      obtain ⟨v, σ', H', J', r, q⟩ := z
      exact ⟨v, σ', H', J'.ofTry ok, r, q⟩
end
/-! ### the source of draws -/
def BoxAt (H : Hp) (b : Addr) : Prop := ∃ g m n : Int, H b = some (.lst [.int g, .int m, .int n])
theorem BoxAt.same {H H' : Hp} {b : Addr} (h : BoxAt H b) (s : Same H H') : BoxAt H' b := by
  obtain ⟨g, m, n, e⟩ := h
  exact ⟨g, m, n, s _ _ e⟩
/-- all but the source stays -/
def Keep (b : Addr) (H H' : Hp) : Prop := ∀ a o, H a = some o → a ≠ b → H' a = some o
theorem Keep.refl (b : Addr) (H : Hp) : Keep b H H := fun _ _ e _ => e
theorem Keep.trans {b : Addr} {H H1 H2 : Hp} (x : Keep b H H1) (y : Keep b H1 H2) : Keep b H H2 := fun a o e n => y a o (x a o e n) n
theorem Keep.of {b : Addr} {H H' : Hp} (s : Same H H') : Keep b H H' := fun a o e _ => s a o e
theorem Keep.at_ {b : Addr} {H : Hp} {o : HO} : Keep b H (upd H b o) := fun a x e n => by rw [upd_ne n]; exact e
theorem BoxAt.ne_of {H : Hp} {b p : Addr} (h : BoxAt H b) (n : H p = none) : p ≠ b := by
  obtain ⟨g, m, k, e⟩ := h
  exact (ne_of_none e n).symm
theorem BoxAt.ne_tup {H : Hp} {b p : Addr} {xs : List V} (h : BoxAt H b) (n : H p = some (.tup xs)) : p ≠ b := by
  obtain ⟨g, m, k, e⟩ := h
  exact Own.ne_of n e (by intro z; cases z)
theorem Keep.seq {K : PySem.W.Frag} {b a : Addr} {H H' : Hp} {xs : List V} (k : Keep b H H') (ne : a ≠ b) (h : SqL K H a xs) : SqL K H' a xs := by
  rcases h with (h | ⟨o, h⟩) | h
  · exact .inl (.inl (k _ _ h ne))
  · exact .inl (.inr ⟨o, k _ _ h ne⟩)
  · exact .inr h
/-- a def whose code object stands at c -/
structure FunC (K : PySem.W.Frag) (x qual : Str) (st : Stmt) (f : Addr) (fd : FuncData) (c : Addr) : Prop where
  ex : ∃ (oc : Value) (od : Option Addr) (kV doc pm : Value) (an : Option Addr) (ct : Value) (osl : Array (Option Value)),
    fd = PySem.W.fnOf x qual (defArgs st) (defBody st) (defScope st) .none kV doc pm an (.ref c) ct ∧ K.lookup f = some ⟨oc, od, .func fd, osl⟩ ∧ PySem.W.codeIn K (.ref c) qual = true
section
variable {P : Program} {w : World} {K : PySem.W.Frag} {mg : Str → Option Value} {base : Heap}
theorem FunC.ok {x qual : Str} {st : Stmt} {f c : Addr} {fd : FuncData} {N ps : List Str} {k : Nat} {sp : Sp} (F : FunC K x qual st f fd c) (S : FnScope N ps (defScope st)) (len : ∀ vs H Q E, sp vs H Q E → vs.length = ps.length)
    (hbody : ∀ (A : Around) (outer : List Env) (s : Shared) (H : Hp) (vs : List V) (Q : VK) (E : XK), Room k (A.deeper (envOfC qual (defScope st) s.heap.objs.size f (.ref c))) → sp vs H Q E →
      ∃ t, PSs (cxOf CX0 P w K mg base N qual (defScope st) f (.ref c) A outer s H E).nox (defBody st) t ∧ t { nx := fun _ H' => Q .non H', rt := Q } (L2.start N vs) H) : FnOk P w K mg base CX0 (k + 1) f fd ps sp := by
  obtain ⟨oc, od, kV, doc, pm, an, ct, osl, rfl, lk, hcd⟩ := F.ex
  refine fn_of lk hcd S len fun A outer s H vs Q E hr hsp => ?_
  obtain ⟨t, h, q⟩ := hbody A outer s H vs Q E hr hsp
  exact ⟨t, h.nox, q⟩
end
/-! ### the tables stay tables -/
def KeepN (b : Addr) (H H' : Hp) : Prop := ∀ a o, H a = some o → a ≠ b → (∀ ps, o ≠ .tbl ps) → H' a = some o
theorem KeepN.of_keep {b : Addr} {H H' : Hp} (k : Keep b H H') : KeepN b H H' := fun a o e n _ => k a o e n
theorem KeepN.of_ext {b : Addr} {H H' : Hp} (k : LamX.ExtN H H') : KeepN b H H' := fun a o e _ n => k a o e n
theorem KeepN.trans {b : Addr} {H H1 H2 : Hp} (x : KeepN b H H1) (y : KeepN b H1 H2) : KeepN b H H2 := fun a o e n m => y a o (x a o e n m) n m
theorem ext_of {H H' : Hp} (s : Same H H') : LamX.ExtN H H' := LamX.ExtN.of s
theorem ext_at {H0 H : Hp} {D : Addr} {o : HO} (s : LamX.ExtN H0 H) (n : H D = none) : LamX.ExtN H0 (upd H D o) := s.trans (ext_of (same_upd n))
theorem codeO_lst {c : Addr} {q : Str} {xs : List V} : LamX.CodeO c q ≠ .lst xs := fun z => by
  unfold LamX.CodeO at z
  cases z
theorem BoxAt.ext {H H' : Hp} {b : Addr} (h : BoxAt H b) (s : LamX.ExtN H H') : BoxAt H' b := by
  obtain ⟨g, m, n, e⟩ := h
  exact ⟨g, m, n, s _ _ e (fun ps z => by cases z)⟩
theorem tabs_keep {T : List (Addr × Str)} {b : Addr} {H H' : Hp} (t : LamX.Tabs T H) (x : BoxAt H b) (k : Keep b H H') : LamX.Tabs T H' := fun p hp => by
  obtain ⟨ps, h1, h2, h3⟩ := t p hp
  obtain ⟨g, m, n, e⟩ := x
  refine ⟨ps, k _ _ h1 (Own.ne_of h1 e (by intro z; cases z)), h2, fun pos cv hc => ?_⟩
  obtain ⟨c, e1, e2⟩ := h3 pos cv hc
  exact ⟨c, e1, k _ _ e2 (Own.ne_of e2 e codeO_lst)⟩
/-- new, as far as it is no table -/
def FreeN (H : Hp) (l : Addr) : Prop := ∀ o, H l = some o → ∃ ps, o = .tbl ps
theorem freeN_of {H H' : Hp} {l : Addr} (x : LamX.ExtN H H') (n : H' l = none) : FreeN H l := fun o e => by
  refine Classical.byContradiction fun h => ?_
  rw [x _ _ e (fun ps z => h ⟨ps, z⟩)] at n
  cases n
theorem ext_put {H H' : Hp} {l : Addr} {o : HO} (x : LamX.ExtN H H') (n : FreeN H l) : LamX.ExtN H (upd H' l o) := fun b u e h => by
  by_cases hb : b = l
  · subst hb
    obtain ⟨ps, z⟩ := n u e
    exact absurd z (h ps)
  · rw [upd_ne hb]; exact x _ _ e h
theorem tabs_put {T : List (Addr × Str)} {l : Addr} {H : Hp} {xs : List V} {o : HO} (t : LamX.Tabs T H) (e : H l = some (.lst xs)) : LamX.Tabs T (upd H l o) := fun p hp => by
  obtain ⟨ps, h1, h2, h3⟩ := t p hp
  refine ⟨ps, by rw [upd_ne (Own.ne_of h1 e (by intro z; cases z))]; exact h1, h2, fun pos cv hc => ?_⟩
  obtain ⟨c, e1, e2⟩ := h3 pos cv hc
  exact ⟨c, e1, by rw [upd_ne (Own.ne_of e2 e codeO_lst)]; exact e2⟩
theorem len1 {a : V} : [a].length ≤ sizeLine := by
  rw [sizeLine_eq]
  exact (by decide : 1 ≤ 16777216)
theorem len2 {a b : V} : [a, b].length ≤ sizeLine := by
  rw [sizeLine_eq]
  exact (by decide : 2 ≤ 16777216)
theorem len3 {a b c : V} : [a, b, c].length ≤ sizeLine := by
  rw [sizeLine_eq]
  exact (by decide : 3 ≤ 16777216)
theorem len4 {a b c d : V} : [a, b, c, d].length ≤ sizeLine := by
  rw [sizeLine_eq]
  exact (by decide : 4 ≤ 16777216)
theorem len5 {a b c d e : V} : [a, b, c, d, e].length ≤ sizeLine := by
  rw [sizeLine_eq]
  exact (by decide : 5 ≤ 16777216)
theorem len6 {a b c d e f : V} : [a, b, c, d, e, f].length ≤ sizeLine := by
  rw [sizeLine_eq]
  exact (by decide : 6 ≤ 16777216)
theorem nil_ok : ([] : List V).length ≤ sizeLine := Nat.zero_le _
theorem TyOf.same {K : PySem.W.Frag} {H H' : Hp} {x : V} {t : Value} (h : TyOf K H x t) (s : Same H H') : TyOf K H' x t := by
  cases h with
  | non => exact .non
  | bl b => exact .bl b
  | int i => exact .int i
  | str y => exact .str y
  | flt y => exact .flt y
  | lst e => exact .lst (s _ _ e)
  | frz e => exact .frz (s _ _ e)
  | tup e => exact .tup (s _ _ e)
  | dK e => exact .dK (s _ _ e)
  | dT e => exact .dT (s _ _ e)
  | ins e cl ha hn htk hm => exact .ins (s _ _ e) cl ha hn htk hm
theorem TyX.same {K : PySem.W.Frag} {H H' : Hp} {x : V} {t : Value} (h : TyX K H x t) (s : Same H H') : TyX K H' x t := by
  cases h with
  | base h => exact .base (TyOf.same h s)
  | byt b => exact .byt b
  | set e => exact .set (s _ _ e)
  | kList e c => exact .kList e c
  | kTuple e c => exact .kTuple e c
  | kDict e c => exact .kDict e c
  | fTuple e => exact .fTuple (s _ _ e)
  | fDict e => exact .fDict (s _ _ e)
theorem TyE.same {K : PySem.W.Frag} {H H' : Hp} {x : V} {t : Value} (h : TyE K H x t) (s : Same H H') : TyE K H' x t := by
  cases h with
  | base h => exact .base (TyX.same h s)
  | exc T e f => exact .exc T (s _ _ e) (s _ _ f)
theorem exo_lst {e C : Addr} {d : Option Addr} {xs : List V} : exo e C d ≠ .lst xs := fun z => by
  have z' : HO.ext _ = HO.lst xs := z
  cases z'
theorem exd_lst {e : Addr} {fs : List (Str × V)} {xs : List V} : exd e fs ≠ .lst xs := fun z => by
  have z' : HO.ext _ = HO.lst xs := z
  cases z'
theorem Keep.at_ne {b a : Addr} {H H' : Hp} {o : HO} (k : Keep b H H') (x : BoxAt H b) (e : H a = some o) (n : ∀ xs, o ≠ .lst xs) : H' a = some o := by
  obtain ⟨g, m, y, eb⟩ := x
  exact k _ _ e (Own.ne_of e eb (n _))
theorem TyOf.keep {K : PySem.W.Frag} {b : Addr} {H H' : Hp} {x : V} {t : Value} (h : TyOf K H x t) (hb : BoxAt H b) (hb' : BoxAt H' b) (s : Keep b H H') : TyOf K H' x t := by
  cases h with
  | non => exact .non
  | bl b => exact .bl b
  | int i => exact .int i
  | str y => exact .str y
  | flt y => exact .flt y
  | @lst a xs e =>
    by_cases c : a = b
    · subst c
      obtain ⟨g, m, n, e2⟩ := hb'
      exact .lst e2
    · exact .lst (s _ _ e c)
  | frz e => exact .frz (s.at_ne hb e (fun _ z => by cases z))
  | tup e => exact .tup (s.at_ne hb e (fun _ z => by cases z))
  | dK e => exact .dK (s.at_ne hb e (fun _ z => by cases z))
  | dT e => exact .dT (s.at_ne hb e (fun _ z => by cases z))
  | ins e cl ha hn htk hm => exact .ins (s.at_ne hb e (fun _ z => by cases z)) cl ha hn htk hm
theorem TyX.keep {K : PySem.W.Frag} {b : Addr} {H H' : Hp} {x : V} {t : Value} (h : TyX K H x t) (hb : BoxAt H b) (hb' : BoxAt H' b) (s : Keep b H H') : TyX K H' x t := by
  cases h with
  | base h => exact .base (TyOf.keep h hb hb' s)
  | byt b => exact .byt b
  | set e => exact .set (s.at_ne hb e (fun _ z => by cases z))
  | kList e c => exact .kList e c
  | kTuple e c => exact .kTuple e c
  | kDict e c => exact .kDict e c
  | fTuple e => exact .fTuple (s.at_ne hb e (fun _ z => by cases z))
  | fDict e => exact .fDict (s.at_ne hb e (fun _ z => by cases z))
theorem TyE.keep {K : PySem.W.Frag} {b : Addr} {H H' : Hp} {x : V} {t : Value} (h : TyE K H x t) (hb : BoxAt H b) (hb' : BoxAt H' b) (s : Keep b H H') : TyE K H' x t := by
  cases h with
  | base h => exact .base (TyX.keep h hb hb' s)
  | exc T e f => exact .exc T (s.at_ne hb e (fun _ => exo_lst)) (s.at_ne hb f (fun _ => exd_lst))
theorem seq_ext {K : PySem.W.Frag} {a : Addr} {H H' : Hp} {xs : List V} (x : LamX.ExtN H H') (h : SqL K H a xs) : SqL K H' a xs := by
  rcases h with (h | ⟨o, h⟩) | h
  · exact .inl (.inl (x _ _ h (fun ps z => by cases z)))
  · exact .inl (.inr ⟨o, x _ _ h (fun ps z => by cases z)⟩)
  · exact .inr h
theorem ext_keepN {b : Addr} {H H' : Hp} (k : KeepN b H H') (n : H b = none) : LamX.ExtN H H' := fun a o e m => k a o e (ne_of_none e n) m
theorem u65 {k : Nat} {A : Around} (hr : Room k A) : A.units + 65 < cLine := by have := hr.un; omega
open PySem.W (Frag findIn subIn typeIn keepIn)
open PySem.Calls
theorem sw2 {α : Type} {ws : List α} (h : (sw ws).length = 2) : ∃ a b, ws = [a, b] := by
  match ws, h with
  | [], h => cases h
  | [_], h => cases h
  | [a, b], _ => exact ⟨a, b, rfl⟩
  | _ :: _ :: _ :: _, h => cases h
theorem vals_sw : ∀ {zs : List V} {ws : List Value}, Vals zs ws → Vals (sw zs) (sw ws)
  | _, _, .nil => .nil
  | _, _, .cons _ .nil => .nil
  | _, _, .cons a (.cons b .nil) => .cons b (.cons a .nil)
  | _, _, .cons _ (.cons _ (.cons _ _)) => .nil
section
variable {P : Program} {w : World} {K : Frag} {mg : Str → Option Value} {base : Heap} {x p1 p2 : Str} {st : Stmt} {f : Addr} {fd : FuncData} {k : Nat} {sp : Sp} {CX : CXT}
theorem mkK2 (F : Fun K x x st f fd) (ok : FnOk P w K mg base CX k f fd [p1, p2] sp) (hC : CX = CX0 ∨ CX = L2.CX P w) (g : mg x = some (.ref f))
    (h : ∀ (kV doc pm : Value) (an : Option Addr) (cdv ct : Value) (a b : Value), bindArgs (PySem.W.fnOf x x (defArgs st) (defBody st) (defScope st) .none kV doc pm an cdv ct) ⟨[], [p2, p1].zip [a, b]⟩ = pure ([p1, p2].zip [b, a])) : CalK P w K mg base k x [p2, p1] sw sp := by
  have kp := F.kp
  obtain ⟨oc, od, kV, doc, pm, an, cdv, ct, osl, rfl, lk, hc⟩ := F.ex
  refine ⟨⟨f, _, [p1, p2], sw, CX, hC, ok, g, kp, fun s ws hl => ?_, fun _ _ r => vals_sw r⟩⟩
  obtain ⟨a, b, rfl⟩ := sw2 hl
  exact .of_eq (h kV doc pm an cdv ct a b)
theorem mkK1 (F : Fun K x x st f fd) (ok : FnOk P w K mg base CX k f fd [p1] sp) (hC : CX = CX0 ∨ CX = L2.CX P w) (g : mg x = some (.ref f))
    (h : ∀ (kV doc pm : Value) (an : Option Addr) (cdv ct : Value) (a : Value), bindArgs (PySem.W.fnOf x x (defArgs st) (defBody st) (defScope st) .none kV doc pm an cdv ct) ⟨[], [p1].zip [a]⟩ = pure ([p1].zip [a])) : CalK P w K mg base k x [p1] id sp := by
  have kp := F.kp
  obtain ⟨oc, od, kV, doc, pm, an, cdv, ct, osl, rfl, lk, hc⟩ := F.ex
  refine ⟨⟨f, _, [p1], id, CX, hC, ok, g, kp, fun s ws hl => ?_, fun _ _ r => r⟩⟩
  match ws, hl with
  | [a], _ => exact .of_eq (h kV doc pm an cdv ct a)
end
/-- an own error's class -/
def oexB (K : Frag) (C : Addr) : Bool := (match K.lookup C with
  | some ⟨.type t, _, .cls cd, sl⟩ => decide (t = "type") && (match cd.mro, sl.toList with
    | .ref C' :: bm, [_, _, _, _, some (.builtin n), _] => decide (C' = C) && (decide (n = "ValueError.__new__") && (!cd.hasDel && (cd.hasDict && HandSPX.refsVE bm)))
    | _, _ => false)
  | _ => false) && (He.eqO (findIn K (.ref C) "__setattr__") (some (some (.builtin "object.__setattr__"))) && (decide (subIn K (.ref C) (.type "BaseException") = some true) && (decide (typeIn K (.ref C) = some (.type "type")) && keepIn K (.ref C))))
theorem oexB_ok {K : Frag} {C : Addr} (h : oexB K C = true) : OexC K C := by
  obtain ⟨h1, h⟩ := He.ba h
  obtain ⟨h2, h⟩ := He.ba h
  obtain ⟨h3, h⟩ := He.ba h
  obtain ⟨h4, h5⟩ := He.ba h
  refine ⟨?_, He.eqO_ok h2, of_decide_eq_true h3, of_decide_eq_true h4, h5⟩
  clear h2 h3 h4 h5 h
  cases q : K.lookup C with
  | none => rw [q] at h1; cases h1
  | some o =>
    obtain ⟨oc, dd, dt, sl⟩ := o
    rw [q] at h1
    cases oc with
    | type t =>
      cases dt with
      | cls cd =>
        obtain ⟨nm, bases, mro, ns, qn, hd, sn, sb, ab, col, del⟩ := cd
        obtain ⟨a1, a2⟩ := He.ba h1
        obtain rfl := of_decide_eq_true a1
        clear h1 a1
        cases mro with
        | nil => cases a2
        | cons m bm =>
          cases m with
          | ref C' =>
            obtain ⟨sll⟩ := sl
            match sll, a2 with
            | [k0, k1, k2, k3, some (.builtin n), k5], a2 =>
              obtain ⟨b1, b⟩ := He.ba a2
              obtain ⟨b2, b⟩ := He.ba b
              obtain ⟨b3, b⟩ := He.ba b
              obtain ⟨b4, b5⟩ := He.ba b
              obtain rfl := of_decide_eq_true b1
              obtain rfl := of_decide_eq_true b2
              have e3 : del = false := by simpa using b3
              have e4 : hd = true := b4
              subst e3 e4
              exact ⟨nm, qn, ns, bases, bm, sn, sb, ab, col, dd, k0, k1, k2, k3, k5, rfl, b5⟩
          | _ => cases a2
      | _ => cases h1
    | _ => cases dt <;> cases h1
def clsB (K : Frag) (x : Str) : Bool := oexB K (He.ga K x) && (He.eqO (findIn K (.ref (He.ga K x)) "__init__") (some (some (.ref (He.ma K (He.ga K x) "__init__")))) && (decide (typeIn K (.ref (He.ma K (He.ga K x) "__init__")) = some (.type "function")) && (xfB K (He.ga K x) && He.eqO (findIn K (.ref (He.ga K x)) "word") (some none))))
theorem clsB_ok {K : Frag} {mg : Str → Option Value} {x : Str} (h : clsB K x = true) (g : mg x = some (.ref (He.ga K x))) : ExT K mg x (He.ga K x) (He.ma K (He.ga K x) "__init__") := by
  obtain ⟨h1, h⟩ := He.ba h
  obtain ⟨h2, h⟩ := He.ba h
  obtain ⟨h3, h⟩ := He.ba h
  obtain ⟨h4, h5⟩ := He.ba h
  exact ⟨oexB_ok h1, He.eqO_ok h2, of_decide_eq_true h3, g, xfB_ok h4, He.eqO_ok h5⟩
section
variable {K : Frag}
theorem funOf {x : Str} {st : Stmt} {f : Addr} {fd : FuncData} {qual : Str} (F : FunD K x qual (defArgs st) (defBody st) (defScope st) [] [] f fd) : Fun K x qual st f fd := by
  obtain ⟨oc, od, dV, kV, doc, pm, an, cdv, ct, osl, e, lk, hc, hd, hk⟩ := F.ex
  rcases hd with ⟨_, h⟩ | ⟨h, _⟩
  · subst h
    exact ⟨⟨oc, od, kV, doc, pm, an, cdv, ct, osl, e, lk, hc⟩, F.kp⟩
  · exact absurd rfl h
theorem funCOf {x : Str} {st : Stmt} {p : He.Defn} {fd : FuncData} {qual : Str} (F : Fun K x qual st (He.fAd K p) fd) : FunC K x qual st (He.fAd K p) fd (He.cT K p).1 := by
  obtain ⟨oc, od, kV, doc, pm, an, cdv, ct, osl, e, lk, hc⟩ := F.ex
  obtain ⟨c, rfl⟩ := He.codeIn_ref hc
  have e2 : He.codeOf K p = c := He.codeOf_eq lk (by rw [e])
  have e3 : (He.cT K p).1 = c := e2
  rw [e3]
  exact ⟨⟨oc, od, kV, doc, pm, an, ct, osl, e, lk, hc⟩⟩
end
end Own

/-! zip of three tuples in a loop, tuple(zip(list, list)), len(set(tuple of integers)). -/
namespace Z3
open PySem PySem.Spec PyProof.Rows L2 RZ
/-! ### three tuples side by side -/
def ItzT3 (K : PySem.W.Frag) (a b c : Addr) : It :=
  ⟨fun i H => ∃ (xs ys zs : List V) (x y z : V), SqT K H a xs ∧ SqT K H b ys ∧ SqT K H c zs ∧ xs.length = ys.length ∧ ys.length = zs.length ∧ xs[i]? = some x ∧ ys[i]? = some y ∧ zs[i]? = some z,
    fun i H v H' => ∃ T x y z, v = .ref T ∧ H T = none ∧ H' = upd H T (.tup [x, y, z]) ∧ (∀ xs, SqT K H a xs → xs[i]? = some x) ∧ (∀ ys, SqT K H b ys → ys[i]? = some y) ∧ ∀ zs, SqT K H c zs → zs[i]? = some z,
    fun i H => ∃ xs ys zs : List V, SqT K H a xs ∧ SqT K H b ys ∧ SqT K H c zs ∧ xs.length = i ∧ ys.length = i ∧ zs.length = i⟩
theorem turn_zip3 {P : Program} {w : World} {K : PySem.W.Frag} {elts : List Expr} {kk : Nat} {tpos : Pos} {a b c z TI TO i1 i2 i3 : Addr} (D : ZipSep3 z TI TO i1 i2 i3 [i1, a] [i2, b] [i3, c]) (na : a ≠ i1) (nb : b ≠ i2) (nc : c ≠ i3) :
    Turn P w K (.Tuple elts kk tpos) (ItzT3 K a b c) [z, TI, TO, i1, i2, i3] z (fun i h => IsZip h z TI TO .none ∧ IsTupOf3 h TI (.ref i1) (.ref i2) (.ref i3) ∧ (∃ x y v, IsTupOf3 h TO x y v) ∧ h.IsTupleIter i1 a i ∧ h.IsTupleIter i2 b i ∧ h.IsTupleIter i3 c i) where
  mem := by simp
  obj := fun i h st e hc => by
    obtain ⟨hz, hTI, ⟨x, y, v, hTO⟩, ⟨o1, e1, _, d1⟩, ⟨o2, e2, _, d2⟩, ⟨o3, e3, _, d3⟩⟩ := st
    have e' : e = z ∨ e = TI ∨ e = TO ∨ e = i1 ∨ e = i2 ∨ e = i3 := by simpa using hc
    rcases e' with q | q | q | q | q | q
    · rw [q]; exact ⟨_, hz, fun v q => nomatch q⟩
    · rw [q]; exact ⟨_, hTI, fun v q => nomatch q⟩
    · rw [q]; exact ⟨_, hTO, fun v q => nomatch q⟩
    · rw [q]; exact ⟨o1, e1, fun v q => by rw [d1] at q; cases q⟩
    · rw [q]; exact ⟨o2, e2, fun v q => by rw [d2] at q; cases q⟩
    · rw [q]; exact ⟨o3, e3, fun v q => by rw [d3] at q; cases q⟩
  keep := fun i h h' st k => by
    obtain ⟨hz, hTI, ⟨x, y, v, hTO⟩, h1, h2, h3⟩ := st
    exact ⟨k z (by simp) _ hz, k TI (by simp) _ hTI, ⟨x, y, v, k TO (by simp) _ hTO⟩, h1.at fun o q => k i1 (by simp) o q, h2.at fun o q => k i2 (by simp) o q, h3.at fun o q => k i3 (by simp) o q⟩
  item := by
    intro X hP hw hK hc i pins s σ H E I hf st hg
    subst hP hw hK
    obtain ⟨hz, hTI, ⟨x0, y0, v0, hTO⟩, h1, h2, h3⟩ := st
    obtain ⟨xs, ys, zs, x, y, v, hqx, hqy, hqz, le1, le2, hx, hy, hv⟩ := hg
    obtain ⟨its, rv, p, _⟩ := I.tuple hqx
    obtain ⟨its2, rv2, p2, _⟩ := I.tuple hqy
    obtain ⟨its3, rv3, p3, _⟩ := I.tuple hqz
    obtain ⟨u, hu, ru⟩ := rv.get hx
    obtain ⟨u2, hu2, ru2⟩ := rv2.get hy
    obtain ⟨u3, hu3, ru3⟩ := rv3.get hv
    have hzl : z < s.heap.objs.size := Heap.lt_size hz
    have hh : X.A.in1.in1.handled = none := I.ok.hd hc
    have l1 : i < its.toArray.size := by have := (List.getElem?_eq_some_iff.mp hu).1; simpa using this
    have l2 : i < its2.toArray.size := by have := (List.getElem?_eq_some_iff.mp hu2).1; simpa using this
    have l3 : i < its3.toArray.size := by have := (List.getElem?_eq_some_iff.mp hu3).1; simpa using this
    refine wpAny_pyNext_zipD3_item (A := X.A) D (Draws.tuple (A := X.A.in1) hh i1 a na its.toArray) (Draws.tuple (A := X.A.in1) hh i2 b nb its2.toArray) (Draws.tuple (A := X.A.in1) hh i3 c nc its3.toArray) hz hTI hTO ⟨h1, p⟩ ⟨h2, p2⟩ ⟨h3, p3⟩ l1 l2 l3 fun x1 x2 x3 h' tk e1 e2 e3 z' TO' q1 q2 q3 hT hsz hk => ?_
    obtain rfl : x1 = u := by
      have : its[i]? = some x1 := by simpa using e1
      rw [hu] at this; exact (Option.some.inj this).symm
    obtain rfl : x2 = u2 := by
      have : its2[i]? = some x2 := by simpa using e2
      rw [hu2] at this; exact (Option.some.inj this).symm
    obtain rfl : x3 = u3 := by
      have : its3[i]? = some x3 := by simpa using e3
      rw [hu3] at this; exact (Option.some.inj this).symm
    refine ⟨_, rfl, wpAny_letOwnedTupleGo_zip (s := { s with heap := h', toks := tk }) z' fun h'' z'' sb => ?_⟩
    have hT2 : h''.get? s.heap.objs.size = some { cls := .type "tuple", data := .seq #[x1, x2, x3] } := (sb.2 _ (Nat.ne_of_gt hzl)).trans hT
    have new : ObjOk X.prog X.w (upd H s.heap.objs.size (.tup [x, y, v])) h'' s.heap.objs.size (.tup [x, y, v]) :=
      ⟨by show 3 ≤ sizeLine; decide, [x1, x2, x3], .cons ru (.cons ru2 (.cons ru3 .nil)), ⟨_, hT2, rfl, _, rfl⟩⟩
    have I1 : Inv X pins σ (upd H s.heap.objs.size (.tup [x, y, v])) { s with heap := h'', toks := tk } :=
      I.turnedNew (t' := tk) (ch := [z, TI, TO, i1, i2, i3]) (fun c o hb q => (sb.2 c (fun q' => hb (by simp [q']))).trans (hk c o (fun q' => hb (by simp [q'])) (fun q' => hb (by simp [q'])) (fun q' => hb (by simp [q'])) (fun q' => hb (by simp [q'])) (fun q' => hb (by simp [q'])) q)) hf (Nat.le_refl _) new
    refine ⟨.ref s.heap.objs.size, _, I1, rfl, ⟨_, x, y, v, rfl, I.hok.fresh (Nat.le_refl _), rfl, fun l hl => by rw [I.tuple_inj hl hqx]; exact hx, fun l hl => by rw [I.tuple_inj hl hqy]; exact hy, fun l hl => by rw [I.tuple_inj hl hqz]; exact hv⟩, ⟨z'', ?_, ⟨x1, x2, x3, ?_⟩, ?_, ?_, ?_⟩, fun e hcm => ?_⟩
    · exact (sb.2 _ D.TIz).trans (hk _ _ D.TIz D.TITO D.TIi1 D.TIi2 D.TIi3 hTI)
    · exact (sb.2 _ D.TOz).trans TO'
    · exact q1.1.at fun o q => (sb.2 _ D.zi1.symm).trans q
    · exact q2.1.at fun o q => (sb.2 _ D.zi2.symm).trans q
    · exact q3.1.at fun o q => (sb.2 _ D.zi3.symm).trans q
    · have hlt : e < s.heap.objs.size := by
        have e' : e = z ∨ e = TI ∨ e = TO ∨ e = i1 ∨ e = i2 ∨ e = i3 := by simpa using hcm
        rcases e' with q | q | q | q | q | q
        · rw [q]; exact hzl
        · rw [q]; exact Heap.lt_size hTI
        · rw [q]; exact Heap.lt_size hTO
        · rw [q]; obtain ⟨_, e1, _⟩ := h1; exact Heap.lt_size e1
        · rw [q]; obtain ⟨_, e2, _⟩ := h2; exact Heap.lt_size e2
        · rw [q]; obtain ⟨_, e3, _⟩ := h3; exact Heap.lt_size e3
      rw [upd_ne (Nat.ne_of_lt hlt)]
      exact (hf e hcm).1
  done := by
    intro X hP hw hK hc i pins s σ H E I hf st hg
    subst hP hw hK
    obtain ⟨hz, hTI, ⟨x0, y0, v0, hTO⟩, h1, h2, h3⟩ := st
    obtain ⟨xs, ys, zs, hqx, hqy, hqz, lx, ly, lz⟩ := hg
    obtain ⟨its, rv, p, _⟩ := I.tuple hqx
    obtain ⟨its2, rv2, p2, _⟩ := I.tuple hqy
    obtain ⟨its3, rv3, p3, _⟩ := I.tuple hqz
    have l1 := rv.length
    have l2 := rv2.length
    have l3 := rv3.length
    have s1 : its.toArray.size = i := by simp; omega
    have s2 : its2.toArray.size = i := by simp; omega
    have s3 : its3.toArray.size = i := by simp; omega
    have hh : X.A.in1.in1.handled = none := I.ok.hd hc
    exact wpAny_pyNext_zipD3_end (A := X.A) D (Draws.tuple (A := X.A.in1) hh i1 a na its.toArray) (Draws.tuple (A := X.A.in1) hh i2 b nb its2.toArray) (Draws.tuple (A := X.A.in1) hh i3 c nc its3.toArray) hz hTI hTO ⟨h1, p⟩ ⟨h2, p2⟩ ⟨h3, p3⟩ (by omega) (by omega) (by omega) (.inl s1.symm)
      fun h' tk hk => ⟨rfl, I.turnedL (t' := tk) (ch := [z, TI, TO, i1, i2, i3]) (fun c o hb q =>
      hk c o (fun q' => hb (by simp [q'])) (fun q' => hb (by simp [q'])) (fun q' => hb (by simp [q'])) (fun q' => hb (by simp [q'])) (fun q' => hb (by simp [q'])) q) hf⟩
  self := fun A i s Q E st h => wpAny_pyIter_zip st.1 h
def iZip3 (K : PySem.W.Frag) (ta : TA) : TI := fun σ H R => ta σ H fun vs H1 => ∃ a b c xs ys zs, vs = [.ref a, .ref b, .ref c] ∧ SqT K H1 a xs ∧ SqT K H1 b ys ∧ SqT K H1 c zs ∧ R (ItzT3 K a b c) H1
theorem pi_zip3 {X : Cx} {e e2 e3 : Expr} {ta : TA} {p pos tpos : Pos} {elts : List Expr} {kk : Nat} (hg : Gl X "zip") (hm : X.mg "zip" = none) (ha : PA X [e, e2, e3] ta)
    (hs : starEach [e, e2, e3] X.env = (false, eval e X.env) :: starEach [e2, e3] X.env := by rfl) (hpl : (backTo pos (starEach [e2, e3] X.env)).any (·.1) = false := by rfl) :
    PI X (.Tuple elts kk tpos) (.Call (.Name "zip" p) [e, e2, e3] [] pos) (iZip3 X.K ta) := by
  refine ⟨fun pins s σ H R I h => ?_⟩
  refine Call_ (ld_blt I hg hm PyProof.Rows.boot_zip (PyProof.Rows.callWith_type1 (thn (ha.run pos pins s σ H _ I h) fun us s1 ⟨vs, H1, I1, r1, q1⟩ => ?_) hs hpl))
  obtain ⟨a, b, c, xs, ys, zs, ex, hqx, hqy, hqz, q⟩ := q1
  subst ex
  cases r1 with
  | cons r rr =>
    cases rr with
    | cons r' rr =>
      cases rr with
      | cons r'' rr =>
        cases rr
        cases r
        cases r'
        cases r''
        have fresh6 : ∀ c, c ∈ [s1.heap.objs.size + 5, s1.heap.objs.size + 3, s1.heap.objs.size + 4, s1.heap.objs.size, s1.heap.objs.size + 1, s1.heap.objs.size + 2] → FpOk X pins H1 c := fun c hcm => by
          have e' : c = s1.heap.objs.size + 5 ∨ c = s1.heap.objs.size + 3 ∨ c = s1.heap.objs.size + 4 ∨ c = s1.heap.objs.size ∨ c = s1.heap.objs.size + 1 ∨ c = s1.heap.objs.size + 2 := by simpa using hcm
          have hle : s1.heap.objs.size ≤ c := by
            rcases e' with z | z | z | z | z | z <;> rw [z] <;> first | exact Nat.le_refl _ | exact Nat.le_add_right _ _
          exact I1.fpOk hle (I1.hok.fresh hle)
        obtain ⟨its, rv, p1, _⟩ := I1.tuple hqx
        obtain ⟨its2, rv2, p2, _⟩ := I1.tuple hqy
        obtain ⟨its3, rv3, p3, _⟩ := I1.tuple hqz
        have la : @LT.lt Nat _ a s1.heap.objs.size := by obtain ⟨_, e, _⟩ := id p1; exact Heap.lt_size e
        have lb : @LT.lt Nat _ b s1.heap.objs.size := by obtain ⟨_, e, _⟩ := id p2; exact Heap.lt_size e
        have lc : @LT.lt Nat _ c s1.heap.objs.size := by obtain ⟨_, e, _⟩ := id p3; exact Heap.lt_size e
        refine zip_begins3 (begins_tuple a its.toArray) (begins_tuple b its2.toArray) (begins_tuple c its3.toArray) p1 p2 p3 fun h' hz hTI hTO h1 h2 h3 hsz hk => wpAny_pyIter_zip hz ?_
        have I2 : Inv X pins σ H1 { s1 with heap := h' } := I1.kept (t' := s1.toks) hk
        have ap : ZipSep3 (s1.heap.objs.size + 5) (s1.heap.objs.size + 3) (s1.heap.objs.size + 4) s1.heap.objs.size (s1.heap.objs.size + 1) (s1.heap.objs.size + 2) [s1.heap.objs.size, a] [s1.heap.objs.size + 1, b] [s1.heap.objs.size + 2, c] := by
          refine ⟨?_, ?_, ?_, ?_, ?_, ?_, ?_, ?_, ?_, ?_, ?_, ?_, ?_, ?_, ?_, ?_, ?_, ?_, ?_, ?_, ?_⟩
          all_goals first
            | exact List.mem_cons_self ..
            | (intro h; have h2 : @Eq Nat _ _ := h; omega)
            | (intro h; rcases List.mem_cons.mp h with h | h
               · have h2 : @Eq Nat _ _ := h; omega
               · have h2 : @Eq Nat _ _ := List.mem_singleton.mp h; omega)
        exact ⟨s1.heap.objs.size + 5, [s1.heap.objs.size + 5, s1.heap.objs.size + 3, s1.heap.objs.size + 4, s1.heap.objs.size, s1.heap.objs.size + 1, s1.heap.objs.size + 2], _, _, H1, rfl, I2, turn_zip3 ap (fun e => by have h2 : @Eq Nat _ _ := e; omega) (fun e => by have h2 : @Eq Nat _ _ := e; omega) (fun e => by have h2 : @Eq Nat _ _ := e; omega), ⟨hz, hTI, ⟨_, _, _, hTO⟩, ⟨_, h1, rfl, rfl⟩, ⟨_, h2, rfl, rfl⟩, ⟨_, h3, rfl, rfl⟩⟩, fresh6, q⟩
theorem for_zip3 {K : PySem.W.Frag} {a b c : Addr} {xs ys zs : List V} {g : TG} {tb : TS} {D : Ends} {σ : L2.St} {H : Hp} (hl : xs.length = ys.length) (hl2 : ys.length = zs.length) (Pv : Nat → L2.St → Hp → Prop) (h0 : Pv 0 σ H) (hq : ∀ i σ H, Pv i σ H → SqT K H a xs ∧ SqT K H b ys ∧ SqT K H c zs)
    (hs : ∀ (i : Nat) (x y z : V) (T : Addr) (σ : L2.St) (H : Hp), xs[i]? = some x → ys[i]? = some y → zs[i]? = some z → Pv i σ H → H T = none → g (.ref T) σ (upd H T (.tup [x, y, z])) fun σ2 H2 => tb { D with nx := Pv (i + 1), ct := Pv (i + 1), bk := D.nx } σ2 H2) (hd : ∀ σ H, Pv xs.length σ H → D.nx σ H) :
    ∃ W : Nat → Nat → L2.St → Hp → Prop, (∃ m, W 0 m σ H) ∧ ∀ i m σ H, W i m σ H →
      ((ItzT3 K a b c).stop i H ∧ D.nx σ H) ∨ ((ItzT3 K a b c).go i H ∧ ∃ N : L2.St → Hp → Prop, (∀ σ' H', N σ' H' → ∃ m', m' < m ∧ W (i + 1) m' σ' H') ∧ ∀ v H', (ItzT3 K a b c).yld i H v H' → g v σ H' fun σ2 H2 => tb { D with nx := N, ct := N, bk := D.nx } σ2 H2) := by
  refine ⟨fun i m σ H => m = xs.length - i ∧ i ≤ xs.length ∧ Pv i σ H, ⟨xs.length, rfl, Nat.zero_le _, h0⟩, ?_⟩
  rintro i m σ H ⟨rfl, hi, p⟩
  obtain ⟨qx, qy, qz⟩ := hq i σ H p
  by_cases hlt : i < xs.length
  · have hx : xs[i]? = some xs[i] := List.getElem?_eq_getElem hlt
    have hlt2 : i < ys.length := by omega
    have hy : ys[i]? = some ys[i] := List.getElem?_eq_getElem hlt2
    have hlt3 : i < zs.length := by omega
    have hz : zs[i]? = some zs[i] := List.getElem?_eq_getElem hlt3
    refine .inr ⟨⟨xs, ys, zs, _, _, _, qx, qy, qz, hl, hl2, hx, hy, hz⟩, Pv (i + 1), fun σ' H' p' => ⟨xs.length - (i + 1), by omega, rfl, hlt, p'⟩, fun v H' y => ?_⟩
    obtain ⟨T, x', y', z', rfl, hT, rfl, f1, f2, f3⟩ := y
    exact hs i x' y' z' T σ H (f1 xs qx) (f2 ys qy) (f3 zs qz) p hT
  · have e : i = xs.length := by omega
    subst e
    exact .inl ⟨⟨xs, ys, zs, qx, qy, qz, rfl, hl.symm, by omega⟩, hd σ H p⟩
/-! ### len(set(t)), t a tuple of unlike integers -/
def tLenSetT (K : PySem.W.Frag) (ta : TE) : TE := fun σ H Q => ta σ H fun x H1 => ∃ (l : Addr) (ns : List Int), x = .ref l ∧ SqT K H1 l (ns.map V.int) ∧ ns.Nodup ∧ ns.length ≤ 1000 ∧ Q (.int (ns.length : Nat)) H1
theorem pe_lenSetT {X : Cx} {a : Expr} {ta : TE} {p p2 q pos : Pos} (hg : Gl X "len") (hm : X.mg "len" = none) (hg2 : Gl X "set") (hm2 : X.mg "set" = none) (ha : PE X a ta) (hc : X.calm = true := by rfl)
    (na : starEach [a] X.env = (false, eval a X.env) :: starEach [] X.env := by rfl) : PE X (.Call (.Name "len" p) [.Call (.Name "set" p2) [a] [] q] [] pos) (tLenSetT X.K ta) := by
  refine ⟨fun pins s σ H Q I h => ?_⟩
  refine Call_ (ld_blt I hg hm boot_len ?_)
  refine PyProof.Rows.callWith_builtin1 (PyProof.Rows.args_cons ?_ rfl) rfl rfl
  refine Call_ (ld_blt I hg2 hm2 boot_set ?_)
  refine PyProof.Rows.callWith_type1 (PyProof.Rows.args_cons (thn (ha.run pins s σ H _ I h) fun v s1 ⟨x, H1, I1, r1, q1⟩ => PyProof.Rows.args_nil ?_) na) na rfl
  obtain ⟨l, ns, rfl, hq, hnd, hl, q1⟩ := q1
  cases r1
  obtain ⟨its, r, pl, hz⟩ := I1.tuple hq
  refine call_set_tupI ns (I1.ok.hd hc) pl (by simpa using intsAre_vals r) (by unfold scanBound; omega) fun h' tk c hS hc' hk => ?_
  refine PyProof.Rows.args_nil ?_
  obtain ⟨o, es, ep, t, ho, hex, hd, _, nd, iff, lt, hf, hn, _⟩ := hS
  have hlen : es.size = ns.length := by
    have pm : (es.toList.map keyOf).Perm ns := (List.perm_ext_iff_of_nodup nd hnd).mpr fun k => ⟨fun h => of_decide_eq_true ((iff k).mpr h), fun h => (iff k).mp (decide_eq_true h)⟩
    have := pm.length_eq
    rw [List.length_map, Array.length_toList] at this
    exact this
  have I2 : Inv X pins σ H1 { s1 with heap := h', toks := tk } := I1.kept hk
  exact call_len_set ho hex hd hf (by rw [hlen] <;> omega) ⟨.int ns.length, H1, I2.tok _, ⟨_, by rw [hlen]⟩, q1⟩
end Z3

/-! set(t) of a tuple of integers, sorted(set) of up to thousands. -/
namespace Own
open PySem PySem.Spec PyProof.Rows L2 RZ
section
variable {P : Program} {w : World} {A : Around} {E : Value → Shared → Prop} {s : Shared} {a : Addr}
def rSetTN (K : PySem.W.Frag) (w : World) : List V → Hp → VK → Prop := fun xs H Q => ∃ (l : Addr) (ns : List Int), xs = [.ref l] ∧ SqT K H l (ns.map V.int) ∧ ns.length ≤ 1000 ∧ ∀ (p : Addr) (c : Nat), c ≤ ns.length → H p = none → Q (.ref p) (upd H p (SetO w p (fun j => decide (j ∈ ns)) c))
theorem cr_setTN {X : Cx} (hc : X.calm = true) : CallR X (.type "set") (rSetTN X.K X.w) := by
  intro pins s σ H xs us Q I r h
  obtain ⟨l, ns, rfl, hq, hl, q⟩ := h
  rw [Vals.ref1 r]
  obtain ⟨its, rv, pl, hz⟩ := I.tuple hq
  refine call_set_tupI ns (I.ok.hd hc) pl (by simpa using intsAre_vals rv) (by unfold scanBound; omega) fun h' tk c hS hc' hk => ?_
  exact ⟨.ref s.heap.objs.size, upd H s.heap.objs.size (SetO X.w s.heap.objs.size (fun j => decide (j ∈ ns)) c), I.laid (t' := tk) hk (Nat.le_refl _) (setO_new hS), rfl, q _ c (by omega) (I.hok.fresh (Nat.le_refl _))⟩
theorem sorted_setN {S : Int → Bool} {n : Nat} {Q : Value → Shared → Prop} (R : SetR w s.heap a S n) (hh : A.handled = none) (few : n ≤ 4000)
    (hQ : ∀ (s' : Shared) (p : Addr) (out : Array Value) (c : Nat) (ns : List Int), (∀ b o, s.heap.get? b = some o → s'.heap.get? b = some o) → s'.gens = s.gens → s'.os = s.os → s.heap.objs.size ≤ p →
      s'.heap.get? p = some (seqObj "list" out c) → IntsAre out.toList ns → ns.Pairwise (· < ·) → (∀ k, k ∈ ns ↔ S k = true) → ns.length = n → Q (.ref p) s') :
    wpAny (model P w) A (call (.builtin "sorted") [.ref a]) Q E s := by
  obtain ⟨o, es, ep, t, ho, hex, hd, g, nd, hm, hb, hf, hn, hr, hl⟩ := R
  have len : (es.toList.map keyOf).length = n := by rw [List.length_map, Array.length_toList]; exact hn
  refine Calls.call_function_entry kind_sorted plain_sorted entry_sorted (args_sorted1 _) ?_
  unfold Builtin.«sorted»
  refine wpAny_bind (m := checkCount "sorted" 1 1 _) (wpAny_pure ?_)
  refine wpAny_bind (collect_set (A := A.in1) hh ⟨o, ho, hex.1, hd⟩ hf hb hr hl fun s1 vs k1 hz g1 o1 pm => ?_)
  have pk : (vs.map Builtin.Re.reRawOf).Perm (es.toList.map keyOf) := by
    have q := pm.map Builtin.Re.reRawOf
    rw [List.map_map] at q
    exact q
  have hvl : vs.length = n := by
    have := pk.length_eq
    rw [List.length_map, len] at this
    exact this
  have zz : vs.length ≤ sizeLine := by rw [hvl, sizeLine_eq]; omega
  have hI : IntsAre vs (vs.map Builtin.Re.reRawOf) := ints_of vs fun v hv => by
    obtain ⟨e, he, q⟩ := List.mem_map.mp (pm.mem_iff.mp hv)
    obtain ⟨k, tk, h1, _⟩ := g e he
    exact ⟨k, tk, q ▸ h1⟩
  refine wpAny_bind (wpAny_newList ?_ zz)
  have hoL : (s1.heap.push (seqObj "list" vs.toArray 0)).get? s1.heap.objs.size = some (seqObj "list" vs.toArray 0) := Heap.get?_push_size _ rfl
  refine wpAny_bind (wpAny_holding (wpAny_call_entry slot_list_sort ⟨_, hoL, rfl⟩ entry_list_sort (list_sort_treeAny hoL hI zz fun out ns' a1 a2 a3 => ⟨_, rfl, ?_⟩) (args_list_sort _)))
  obtain ⟨c, hc⟩ := sortedHeap_at (vs := vs) (out := out) hoL
  have pn : ns'.Perm (es.toList.map keyOf) := a2.trans pk
  refine wpAny_pure ⟨_, rfl, hQ _ s1.heap.objs.size out c ns' (fun b u e => ?_) g1 o1 hz hc a1 (lt_of_le_nodup ns' a3 (pn.nodup_iff.mpr nd)) (fun k => by rw [pn.mem_iff, ← hm k]) (pn.length_eq.trans len)⟩
  have hlt := Heap.lt_size (k1 b u e)
  show (sortedHeap (s1.heap.push (seqObj "list" vs.toArray 0)) s1.heap.objs.size vs out).get? b = some u
  rw [sortedHeap_old (Nat.ne_of_lt hlt) (by rw [size_push']; exact Nat.lt_succ_of_lt hlt)]
  exact Heap.get?_push_of_some _ (k1 b u e)
def rSortedSetN (w : World) : List V → Hp → VK → Prop := fun vs H Q => ∃ (a : Addr) (S : Int → Bool) (n : Nat), vs = [V.ref a] ∧ H a = some (SetO w a S n) ∧ n ≤ 4000 ∧
  ∀ (ns : List Int) (p : Addr), ns.Pairwise (· < ·) → (∀ k : Int, k ∈ ns ↔ S k = true) → H p = none → Q (.ref p) (upd H p (.lst (ns.map V.int)))
theorem cr_sortedSetN {X : Cx} (hc : X.calm = true) : CallR X (.builtin "sorted") (rSortedSetN X.w) := by
  intro pins s σ H vs us Q I r h
  obtain ⟨a, S, n, rfl, ha, few, q⟩ := h
  rw [Vals.ref1 r]
  refine sorted_setN (setO_get I ha) (I.ok.hd hc) few fun s' p out c ns k g o hp hg hi hs hm hl => ?_
  have hlen : (ns.map V.int).length ≤ sizeLine := by rw [List.length_map, hl, sizeLine_eq]; omega
  have hn : H p = none := I.hok.fresh hp
  obtain ⟨h2, g2, d2, t2, o2⟩ := s'
  obtain rfl : g2 = s.gens := g
  obtain rfl : o2 = s.os := o
  have J : Inv X pins σ (upd H p (.lst (ns.map V.int))) { s with heap := h2, gens := s.gens, drawn := d2, toks := t2 } :=
    I.call (ch := []) (Un.laid k hp hn) (I.hok.laid k hp ⟨hlen, out.toList, c, vals_of_ints hi, hg⟩) I.bare (fun _ z => nomatch z)
  exact ⟨.ref p, _, J, rfl, q ns p hs hm hn⟩
end
end Own

namespace M12
/-- a span: start, end, need -/
abbrev Sn := Int × Int × Int
def ld : List Sn → Int → Int
  | [], _ => 0
  | (s, e, d) :: r, m => (if s ≤ m ∧ m < e then d else 0) + ld r m
def net : List Sn → Int → Int
  | [], _ => 0
  | (s, e, d) :: r, m => (if s = m then d else 0) - (if e = m then d else 0) + net r m
def Pos (l : List Sn) : Prop := ∀ x ∈ l, x.1 < x.2.1 ∧ 0 < x.2.2
theorem Pos.tl {x : Sn} {l : List Sn} (h : Pos (x :: l)) : Pos l := fun y hy => h y (List.mem_cons_of_mem _ hy)
theorem ld_step : ∀ {l : List Sn}, Pos l → ∀ m, ld l m = ld l (m - 1) + net l m
  | [], _, m => rfl
  | (s, e, d) :: r, h, m => by
    have h1 := h (s, e, d) (List.mem_cons_self ..)
    have := ld_step h.tl m
    simp only [ld, net] at *
    rw [this]
    repeat' split
    all_goals omega
theorem net_zero : ∀ {l : List Sn} {m : Int}, (∀ x ∈ l, x.1 ≠ m ∧ x.2.1 ≠ m) → net l m = 0
  | [], _, _ => rfl
  | (s, e, d) :: r, m, h => by
    have h1 := h (s, e, d) (List.mem_cons_self ..)
    have := net_zero (l := r) (m := m) fun y hy => h y (List.mem_cons_of_mem _ hy)
    simp only [net, this]
    rw [if_neg h1.1, if_neg h1.2]; rfl
theorem ld_const {l : List Sn} (p : Pos l) : ∀ (n : Nat) {a b : Int}, b = a + n → (∀ x, a < x → x ≤ b → net l x = 0) → ld l b = ld l a
  | 0, a, b, e, _ => by rw [show b = a by omega]
  | n + 1, a, b, e, h => by
    have h1 := ld_step p b
    rw [h b (by omega) (by omega)] at h1
    have := ld_const p n (a := a) (b := b - 1) (by omega) fun x h2 h3 => h x h2 (by omega)
    omega
theorem ld_low : ∀ {l : List Sn} {m : Int}, (∀ x ∈ l, m < x.1) → ld l m = 0
  | [], _, _ => rfl
  | (s, e, d) :: r, m, h => by
    have h1 : m < s := h (s, e, d) (List.mem_cons_self ..)
    simp only [ld, ld_low (l := r) (m := m) fun y hy => h y (List.mem_cons_of_mem _ hy)]
    rw [if_neg (by omega)]; rfl
theorem ld_nn : ∀ {l : List Sn}, Pos l → ∀ m, 0 ≤ ld l m
  | [], _, _ => Int.le_refl _
  | (s, e, d) :: r, h, m => by
    have h1 := h (s, e, d) (List.mem_cons_self ..)
    have := ld_nn h.tl m
    simp only [ld] at *
    split <;> omega
theorem lowest : ∀ (l : List Sn), ∃ lo : Int, ∀ x ∈ l, lo < x.1
  | [] => ⟨0, fun _ h => by cases h⟩
  | (s, e, d) :: r => by
    obtain ⟨lo, h⟩ := lowest r
    refine ⟨min lo (s - 1), fun x hx => ?_⟩
    rcases List.mem_cons.mp hx with rfl | hx
    · show min lo (s - 1) < s
      omega
    · have := h x hx
      omega
/-- every moment has a change behind it with the same load, or no load -/
theorem cover {l : List Sn} (p : Pos l) (m : Int) : ld l m = 0 ∨ ∃ c, c ≤ m ∧ ld l c = ld l m ∧ net l c ≠ 0 := by
  obtain ⟨lo, h⟩ := lowest l
  have : ∀ (n : Nat) (m : Int), m ≤ lo + n → ld l m = 0 ∨ ∃ c, c ≤ m ∧ ld l c = ld l m ∧ net l c ≠ 0 := by
    intro n
    induction n with
    | zero => exact fun m hm => .inl (ld_low fun x hx => by have := h x hx; omega)
    | succ n ih =>
      intro m hm
      by_cases e : net l m = 0
      · have h1 := ld_step p m
        rw [e] at h1
        rcases ih (m - 1) (by omega) with g | ⟨c, g1, g2, g3⟩
        · exact .inl (by omega)
        · exact .inr ⟨c, by omega, by omega, g3⟩
      · exact .inr ⟨m, Int.le_refl _, rfl, e⟩
  exact this (m - lo).toNat m (by omega)
/-- the first moment with the greatest load -/
structure Pk (l : List Sn) (m M : Int) : Prop where
  at_ : ld l m = M
  all : ∀ x, ld l x ≤ M
  fst : ∀ x, x < m → ld l x < M
theorem Pk.one {l : List Sn} {m M m' M' : Int} (h : Pk l m M) (h' : Pk l m' M') : m = m' ∧ M = M' := by
  have e : M = M' := by
    have h1 := h.all m'; have h2 := h'.all m
    rw [h'.at_] at h1; rw [h.at_] at h2; omega
  subst e
  refine ⟨?_, rfl⟩
  by_cases g : m < m'
  · have := h'.fst m g; rw [h.at_] at this; omega
  · by_cases g2 : m' < m
    · have := h.fst m' g2; rw [h'.at_] at this; omega
    · omega
/-- the scan: the first with strictly more -/
def scan (f : Int → Int) : List Int → Int × Int → Int × Int
  | [], b => b
  | m :: ms, b => scan f ms (if f m > b.2 then (m, f m) else b)
theorem scan_spec {f : Int → Int} : ∀ (ms : List Int) (b : Int × Int), ms.Pairwise (· < ·) →
    (scan f ms b = b ∧ (∀ m ∈ ms, f m ≤ b.2)) ∨ ((scan f ms b).1 ∈ ms ∧ f (scan f ms b).1 = (scan f ms b).2 ∧ b.2 < (scan f ms b).2 ∧ (∀ m ∈ ms, f m ≤ (scan f ms b).2) ∧ (∀ m ∈ ms, m < (scan f ms b).1 → f m < (scan f ms b).2))
  | [], b, _ => .inl ⟨rfl, fun _ h => by cases h⟩
  | m :: ms, b, h => by
    obtain ⟨h1, h2⟩ := List.pairwise_cons.mp h
    simp only [scan]
    by_cases g : f m > b.2
    · rw [if_pos g]
      rcases scan_spec ms (m, f m) h2 with ⟨e, k⟩ | ⟨k1, k2, k3, k4, k5⟩
      · refine .inr ?_
        rw [e]
        refine ⟨List.mem_cons_self .., rfl, g, ?_, ?_⟩
        · intro x hx
          rcases List.mem_cons.mp hx with rfl | hx
          · exact Int.le_refl _
          · exact k x hx
        · intro x hx hl
          rcases List.mem_cons.mp hx with rfl | hx
          · exact absurd hl (Int.lt_irrefl _)
          · have h3 := h1 x hx
            have h4 : x < m := hl
            omega
      · refine .inr ⟨List.mem_cons_of_mem _ k1, k2, Int.lt_trans g k3, ?_, ?_⟩
        · intro x hx
          rcases List.mem_cons.mp hx with rfl | hx
          · exact Int.le_of_lt k3
          · exact k4 x hx
        · intro x hx hl
          rcases List.mem_cons.mp hx with rfl | hx
          · exact k3
          · exact k5 x hx hl
    · rw [if_neg g]
      rcases scan_spec ms b h2 with ⟨e, k⟩ | ⟨k1, k2, k3, k4, k5⟩
      · refine .inl ⟨e, ?_⟩
        intro x hx
        rcases List.mem_cons.mp hx with rfl | hx
        · omega
        · exact k x hx
      · refine .inr ⟨List.mem_cons_of_mem _ k1, k2, k3, ?_, ?_⟩
        · intro x hx
          rcases List.mem_cons.mp hx with rfl | hx
          · omega
          · exact k4 x hx
        · intro x hx hl
          rcases List.mem_cons.mp hx with rfl | hx
          · omega
          · exact k5 x hx hl
/-- a scan over all changes finds the peak -/
theorem scan_pk {l : List Sn} (p : Pos l) (ne : l ≠ []) {ms : List Int} (s : ms.Pairwise (· < ·)) (c : ∀ m, net l m ≠ 0 → m ∈ ms) : Pk l (scan (ld l) ms (0, 0)).1 (scan (ld l) ms (0, 0)).2 := by
  have some1 : ∃ m, 0 < ld l m := by
    cases l with
    | nil => exact absurd rfl ne
    | cons x r =>
      obtain ⟨s, e, d⟩ := x
      have h1 := p (s, e, d) (List.mem_cons_self ..)
      have h2 := ld_nn p.tl s
      refine ⟨s, ?_⟩
      simp only [ld]
      rw [if_pos ⟨Int.le_refl _, h1.1⟩]
      have h3 : 0 < d := h1.2
      omega
  rcases scan_spec (f := ld l) ms (0, 0) s with ⟨e, k⟩ | ⟨k1, k2, k3, k4, k5⟩
  · obtain ⟨m, hm⟩ := some1
    rcases cover p m with g | ⟨x, g1, g2, g3⟩
    · omega
    · have h4 : ld l x ≤ 0 := k x (c x g3)
      omega
  · refine ⟨k2, fun x => ?_, fun x hx => ?_⟩
    · rcases cover p x with g | ⟨y, g1, g2, g3⟩
      · rw [g]; exact Int.le_of_lt k3
      · rw [← g2]; exact k4 y (c y g3)
    · rcases cover p x with g | ⟨y, g1, g2, g3⟩
      · rw [g]; exact k3
      · rw [← g2]; exact k5 y (c y g3) (by omega)
/-- all loads are within a size if those at the changes are -/
theorem all_le {l : List Sn} (p : Pos l) {z : Int} (hz : 0 ≤ z) {ms : List Int} (c : ∀ m, net l m ≠ 0 → m ∈ ms) : (∀ m ∈ ms, ld l m ≤ z) ↔ ∀ m, ld l m ≤ z := by
  refine ⟨fun h m => ?_, fun h m _ => h m⟩
  rcases cover p m with g | ⟨y, g1, g2, g3⟩
  · omega
  · rw [← g2]; exact h y (c y g3)
/-- the load between two moments -/
def cov (s e f t : Int) : Int := max 0 (min e t - max s f)
def lb : List Sn → Int → Int → Int
  | [], _, _ => 0
  | (s, e, d) :: r, f, t => d * cov s e f t + lb r f t
theorem lb_step : ∀ {l : List Sn}, Pos l → ∀ {f t : Int}, f ≤ t → lb l f (t + 1) = lb l f t + ld l t
  | [], _, _, _, _ => rfl
  | (s, e, d) :: r, h, f, t, hf => by
    have h1 : s < e ∧ 0 < d := h (s, e, d) (List.mem_cons_self ..)
    have := lb_step h.tl (f := f) (t := t) hf
    simp only [lb, ld, this]
    have g : cov s e f (t + 1) = cov s e f t + (if s ≤ t ∧ t < e then 1 else 0) := by
      unfold cov
      split <;> omega
    rw [g, Int.mul_add]
    have : d * (if s ≤ t ∧ t < e then 1 else 0) = if s ≤ t ∧ t < e then d else 0 := by split <;> simp
    rw [this]; omega
theorem lb_nil : ∀ {l : List Sn} {f t : Int}, Pos l → t ≤ f → lb l f t = 0
  | [], _, _, _, _ => rfl
  | (s, e, d) :: r, f, t, h, hf => by
    have h1 : s < e ∧ 0 < d := h (s, e, d) (List.mem_cons_self ..)
    simp only [lb, lb_nil h.tl hf]
    have : cov s e f t = 0 := by unfold cov; omega
    rw [this]; simp
/-- moments from the first on -/
def ups (f : Int) : Nat → List Int
  | 0 => []
  | n + 1 => ups f n ++ [f + n]
theorem lb_sum {l : List Sn} (p : Pos l) (f : Int) : ∀ n : Nat, lb l f (f + n) = ((ups f n).map (ld l)).foldl (· + ·) 0
  | 0 => by rw [lb_nil p (by omega)]; rfl
  | n + 1 => by
    have h := lb_sum p f n
    have h2 := lb_step p (f := f) (t := f + n) (by omega)
    simp only [ups, List.map_append, List.map_cons, List.map_nil, List.foldl_append, List.foldl_cons, List.foldl_nil]
    rw [← h, ← h2, show f + ((n + 1 : Nat) : Int) = f + n + 1 by omega]
theorem lb_le {l : List Sn} (p : Pos l) {z : Int} (h : ∀ m, ld l m ≤ z) (f : Int) : ∀ n : Nat, lb l f (f + n) ≤ z * n
  | 0 => by rw [lb_nil p (by omega)]; simp
  | n + 1 => by
    have h1 := lb_le p h f n
    have h2 := lb_step p (f := f) (t := f + n) (by omega)
    have h3 := h (f + n)
    have e : f + ((n + 1 : Nat) : Int) = f + n + 1 := by omega
    rw [e, h2]
    have : z * ((n + 1 : Nat) : Int) = z * n + z := by rw [Int.natCast_add, Int.mul_add]; simp
    omega
def whole : List Sn → Int
  | [] => 0
  | (s, e, d) :: r => (e - s) * d + whole r
theorem lb_whole : ∀ {l : List Sn} {f t : Int}, Pos l → (∀ x ∈ l, f ≤ x.1 ∧ x.2.1 ≤ t) → lb l f t = whole l
  | [], _, _, _, _ => rfl
  | (s, e, d) :: r, f, t, h, g => by
    have h1 : s < e ∧ 0 < d := h (s, e, d) (List.mem_cons_self ..)
    have g1 : f ≤ s ∧ e ≤ t := g (s, e, d) (List.mem_cons_self ..)
    simp only [lb, whole, lb_whole h.tl fun x hx => g x (List.mem_cons_of_mem _ hx)]
    have : cov s e f t = e - s := by unfold cov; omega
    rw [this, Int.mul_comm]
theorem mem_change : ∀ {l : List Sn} {m : Int}, net l m ≠ 0 → ∃ x ∈ l, x.1 = m ∨ x.2.1 = m
  | [], m, h => absurd rfl h
  | (s, e, d) :: r, m, h => by
    by_cases a : s = m
    · exact ⟨_, List.mem_cons_self .., .inl a⟩
    · by_cases b : e = m
      · exact ⟨_, List.mem_cons_self .., .inr b⟩
      · simp only [net, if_neg a, if_neg b] at h
        obtain ⟨x, hx, g⟩ := mem_change (l := r) (m := m) (by omega)
        exact ⟨x, List.mem_cons_of_mem _ hx, g⟩
end M12

namespace M60
open M12 (Sn ld net Pos ld_nn cov lb lb_le lb_step lb_nil)
/-! ### sums over numbers below n -/
def sg (f : Nat → Int) : Nat → Int
  | 0 => 0
  | n + 1 => sg f n + f n
theorem sg_le {f g : Nat → Int} : ∀ {n : Nat}, (∀ k, k < n → f k ≤ g k) → sg f n ≤ sg g n
  | 0, _ => Int.le_refl _
  | n + 1, h => by
    have h1 := sg_le (n := n) fun k hk => h k (by omega)
    have h2 := h n (by omega)
    simp only [sg]; omega
theorem sg_cong {f g : Nat → Int} : ∀ {n : Nat}, (∀ k, k < n → f k = g k) → sg f n = sg g n
  | 0, _ => rfl
  | n + 1, h => by
    simp only [sg]
    rw [sg_cong (n := n) fun k hk => h k (by omega), h n (by omega)]
theorem sg_nn {f : Nat → Int} {n : Nat} (h : ∀ k, k < n → 0 ≤ f k) : 0 ≤ sg f n := by
  have : ∀ n, sg (fun _ => 0) n = 0 := fun n => by
    induction n with
    | zero => rfl
    | succ n ih => simp only [sg, ih]; rfl
  rw [← this n]
  exact sg_le h
theorem sg_add (f g : Nat → Int) : ∀ n, sg (fun k => f k + g k) n = sg f n + sg g n
  | 0 => rfl
  | n + 1 => by simp only [sg, sg_add f g n]; omega
theorem sg_one (a : Nat) (c : Int) : ∀ n, sg (fun k => if k = a then c else 0) n = if a < n then c else 0
  | 0 => rfl
  | n + 1 => by
    simp only [sg, sg_one a c n]
    repeat' split
    all_goals omega
theorem sg_pos {f : Nat → Int} {n k : Nat} (h : ∀ k, k < n → 0 ≤ f k) (hk : k < n) : f k ≤ sg f n := by
  have e := sg_one k (f k) n
  rw [if_pos hk] at e
  rw [← e]
  refine sg_le fun i hi => ?_
  split
  · rename_i z; rw [z]; exact Int.le_refl _
  · exact h i hi
/-- the sum over a list of numbers -/
def ls (f : Nat → Int) : List Nat → Int
  | [] => 0
  | a :: r => f a + ls f r
theorem ls_app (f : Nat → Int) : ∀ a b, ls f (a ++ b) = ls f a + ls f b
  | [], b => by simp [ls]
  | x :: a, b => by simp only [List.cons_append, ls, ls_app f a b]; omega
theorem ls_sg (f : Nat → Int) {n : Nat} : ∀ {P : List Nat}, P.Nodup → (∀ k ∈ P, k < n) → ls f P = sg (fun k => if k ∈ P then f k else 0) n
  | [], _, _ => by
    have := sg_cong (f := fun k => if k ∈ ([] : List Nat) then f k else 0) (g := fun _ => 0) (n := n) fun k _ => by simp
    rw [this]
    have z : ∀ n, sg (fun _ => 0) n = 0 := fun n => by
      induction n with
      | zero => rfl
      | succ n ih => simp only [sg, ih]; rfl
    rw [z]; rfl
  | a :: r, nd, h => by
    have ⟨h1, h2⟩ := List.nodup_cons.mp nd
    simp only [ls]
    rw [ls_sg f h2 fun k hk => h k (List.mem_cons_of_mem _ hk)]
    have e := sg_one a (f a) n
    rw [if_pos (h a (List.mem_cons_self ..))] at e
    rw [← e, ← sg_add]
    refine sg_cong fun k _ => ?_
    by_cases ka : k = a
    · subst ka
      rw [if_pos rfl, if_neg h1, if_pos (List.mem_cons_self ..)]; omega
    · rw [if_neg ka]
      by_cases kr : k ∈ r
      · rw [if_pos kr, if_pos (List.mem_cons_of_mem _ kr)]; omega
      · rw [if_neg kr, if_neg (fun z => (List.mem_cons.mp z).elim ka kr)]; omega
theorem ls_nn {f : Nat → Int} : ∀ {P : List Nat}, (∀ k ∈ P, 0 ≤ f k) → 0 ≤ ls f P
  | [], _ => Int.le_refl _
  | a :: r, h => by
    have h1 := h a (List.mem_cons_self ..)
    have h2 := ls_nn (P := r) fun k hk => h k (List.mem_cons_of_mem _ hk)
    simp only [ls]; omega
/-! ### windows -/
/-- low, high, length, need -/
abbrev Wd := Int × Int × Int × Int
def gW (ws : List Wd) (k : Nat) : Wd := ws.getD k (0, 0, 0, 0)
def lo (ws : List Wd) (k : Nat) : Int := (gW ws k).1
def hi (ws : List Wd) (k : Nat) : Int := (gW ws k).2.1
def ln (ws : List Wd) (k : Nat) : Int := (gW ws k).2.2.1
def nd (ws : List Wd) (k : Nat) : Int := (gW ws k).2.2.2
def en (ws : List Wd) (k : Nat) : Int := hi ws k + ln ws k
def wk (ws : List Wd) (k : Nat) : Int := ln ws k * nd ws k
structure WsOk (ws : List Wd) (z : Int) : Prop where
  ord : ∀ k, k < ws.length → lo ws k ≤ hi ws k
  len : ∀ k, k < ws.length → 1 ≤ ln ws k
  nd1 : ∀ k, k < ws.length → 1 ≤ nd ws k
  ndz : ∀ k, k < ws.length → nd ws k ≤ z
theorem wk_nn {ws : List Wd} {z : Int} (h : WsOk ws z) {k : Nat} (hk : k < ws.length) : 1 ≤ wk ws k := by
  have h1 := h.len k hk; have h2 := h.nd1 k hk
  unfold wk
  have := Int.mul_le_mul h1 h2 (by omega) (by omega)
  omega
/-- the spans of starts -/
def spW (ws : List Wd) (S : Nat → Int) (n : Nat) : List Sn := (List.range n).map fun k => (S k, S k + ln ws k, nd ws k)
theorem ld_snoc (m : Int) (x : Sn) : ∀ l : List Sn, ld (l ++ [x]) m = ld l m + (if x.1 ≤ m ∧ m < x.2.1 then x.2.2 else 0)
  | [] => by simp [ld]
  | (s, e, d) :: r => by rw [List.cons_append, ld, ld, ld_snoc m x r]; omega
theorem lb_snoc (f t : Int) (x : Sn) : ∀ l : List Sn, lb (l ++ [x]) f t = lb l f t + x.2.2 * cov x.1 x.2.1 f t
  | [] => by simp [lb]
  | (s, e, d) :: r => by rw [List.cons_append, lb, lb, lb_snoc f t x r]; omega
theorem ld_sg (ws : List Wd) (S : Nat → Int) (m : Int) : ∀ n, ld (spW ws S n) m = sg (fun k => if S k ≤ m ∧ m < S k + ln ws k then nd ws k else 0) n
  | 0 => rfl
  | n + 1 => by
    unfold spW
    rw [List.range_succ, List.map_append]
    show ld (spW ws S n ++ [_]) m = _
    rw [ld_snoc, ld_sg ws S m n]; rfl
theorem lb_sg (ws : List Wd) (S : Nat → Int) (f t : Int) : ∀ n, lb (spW ws S n) f t = sg (fun k => nd ws k * cov (S k) (S k + ln ws k) f t) n
  | 0 => rfl
  | n + 1 => by
    unfold spW
    rw [List.range_succ, List.map_append]
    show lb (spW ws S n ++ [_]) f t = _
    rw [lb_snoc, lb_sg ws S f t n]; rfl
/-- starts that keep the size at all moments -/
def Kp (ws : List Wd) (z : Int) (S : Nat → Int) : Prop := ∀ m, ld (spW ws S ws.length) m ≤ z
def InW (ws : List Wd) (S : Nat → Int) : Prop := ∀ k, k < ws.length → lo ws k ≤ S k ∧ S k ≤ hi ws k
theorem spW_pos {ws : List Wd} {z : Int} (h : WsOk ws z) (S : Nat → Int) : Pos (spW ws S ws.length) := fun x hx => by
  obtain ⟨k, hk, rfl⟩ := List.mem_map.mp hx
  have hk := List.mem_range.mp hk
  have h1 := h.len k hk; have h2 := h.nd1 k hk
  exact ⟨by show S k < S k + ln ws k; omega, by show 0 < nd ws k; omega⟩
/-- what surely runs at a moment stays within the size -/
theorem kp_list {ws : List Wd} {z : Int} (h : WsOk ws z) {S : Nat → Int} (kp : Kp ws z S) {m : Int} {P : List Nat} (pn : P.Nodup) (pl : ∀ k ∈ P, k < ws.length) (run : ∀ k ∈ P, S k ≤ m ∧ m < S k + ln ws k) : ls (nd ws) P ≤ z := by
  refine Int.le_trans ?_ (kp m)
  rw [ld_sg, ls_sg (nd ws) pn pl]
  refine sg_le fun k hk => ?_
  by_cases kP : k ∈ P
  · rw [if_pos kP, if_pos (run k kP)]; exact Int.le_refl _
  · rw [if_neg kP]
    have := h.nd1 k hk
    split <;> omega
theorem kp_pair {ws : List Wd} {z : Int} (h : WsOk ws z) {S : Nat → Int} (kp : Kp ws z S) {i j : Nat} (hi : i < ws.length) (hj : j < ws.length) (ne : i ≠ j) (big : z < nd ws i + nd ws j) : S i + ln ws i ≤ S j ∨ S j + ln ws j ≤ S i := by
  have l1 := h.len i hi; have l2 := h.len j hj
  rcases Int.lt_or_le (S j) (S i + ln ws i) with g | g
  · rcases Int.lt_or_le (S i) (S j + ln ws j) with g2 | g2
    · exfalso
      have := kp_list h kp (m := max (S i) (S j)) (P := [i, j]) (by simp [ne]) (fun k hk => by
        simp only [List.mem_cons, List.not_mem_nil, or_false] at hk
        rcases hk with rfl | rfl <;> assumption) (fun k hk => by
        simp only [List.mem_cons, List.not_mem_nil, or_false] at hk
        rcases hk with rfl | rfl <;> omega)
      simp only [ls] at this
      omega
    · exact .inr g2
  · exact .inl g
/-- the work of those within an interval -/
theorem kp_work {ws : List Wd} {z : Int} (h : WsOk ws z) {S : Nat → Int} (kp : Kp ws z S) {f t : Int} (ft : f ≤ t) {P : List Nat} (pn : P.Nodup) (pl : ∀ k ∈ P, k < ws.length) (run : ∀ k ∈ P, f ≤ S k ∧ S k + ln ws k ≤ t) : ls (wk ws) P ≤ z * (t - f) := by
  have e : t = f + ((t - f).toNat : Int) := by omega
  have h1 := lb_le (spW_pos h S) kp f (t - f).toNat
  rw [← e, Int.toNat_of_nonneg (by omega)] at h1
  refine Int.le_trans ?_ h1
  rw [lb_sg, ls_sg (wk ws) pn pl]
  refine sg_le fun k hk => ?_
  have n1 := h.nd1 k hk; have l1 := h.len k hk
  have cn : 0 ≤ cov (S k) (S k + ln ws k) f t := by unfold cov; omega
  by_cases kP : k ∈ P
  · rw [if_pos kP]
    have := run k kP
    have ec : cov (S k) (S k + ln ws k) f t = ln ws k := by unfold cov; omega
    rw [ec, Int.mul_comm]; exact Int.le_refl _
  · rw [if_neg kP]
    exact Int.mul_nonneg (by omega) cn
end M60

namespace M60
open M12 (Sn ld net Pos ld_nn cov lb lb_le lb_step lb_nil)
/-! ### jobs by their ends -/
def leE (ws : List Wd) (a b : Nat) : Bool := decide (en ws a < en ws b ∨ (en ws a = en ws b ∧ a ≤ b))
def insE (ws : List Wd) (a : Nat) : List Nat → List Nat
  | [] => [a]
  | b :: r => if leE ws a b then a :: b :: r else b :: insE ws a r
def inF (ws : List Wd) (f : Int) : List Nat := (List.range ws.length).filter fun j => decide (f ≤ lo ws j)
def ordF (ws : List Wd) (f : Int) : List Nat := (inF ws f).foldr (insE ws) []
theorem insE_perm (ws : List Wd) (a : Nat) : ∀ l, (insE ws a l).Perm (a :: l)
  | [] => .refl _
  | b :: r => by
    unfold insE
    split
    · exact .refl _
    · exact ((insE_perm ws a r).cons b).trans (.swap a b r)
theorem leE_tot {ws : List Wd} {a b : Nat} (h : ¬ leE ws a b = true) : leE ws b a = true := by
  unfold leE at *
  rw [decide_eq_true_eq] at *
  omega
theorem leE_tr {ws : List Wd} {a b c : Nat} (h : leE ws a b = true) (g : leE ws b c = true) : leE ws a c = true := by
  unfold leE at *
  rw [decide_eq_true_eq] at *
  omega
theorem leE_as {ws : List Wd} {a b : Nat} (h : leE ws a b = true) (g : leE ws b a = true) : a = b := by
  unfold leE at *
  rw [decide_eq_true_eq] at *
  omega
theorem insE_inc (ws : List Wd) (a : Nat) : ∀ l, l.Pairwise (fun x y => leE ws x y = true) → (insE ws a l).Pairwise (fun x y => leE ws x y = true)
  | [], _ => by simp [insE]
  | b :: r, h => by
    obtain ⟨h1, h2⟩ := List.pairwise_cons.mp h
    unfold insE
    split
    · rename_i e
      refine List.pairwise_cons.mpr ⟨fun x hx => ?_, h⟩
      rcases List.mem_cons.mp hx with rfl | hx
      · exact e
      · exact leE_tr e (h1 x hx)
    · rename_i e
      refine List.pairwise_cons.mpr ⟨fun x hx => ?_, insE_inc ws a r h2⟩
      rcases List.mem_cons.mp ((insE_perm ws a r).mem_iff.mp hx) with rfl | hx
      · exact leE_tot e
      · exact h1 x hx
theorem fold_ok (ws : List Wd) : ∀ l : List Nat, (l.foldr (insE ws) []).Perm l ∧ (l.foldr (insE ws) []).Pairwise (fun x y => leE ws x y = true)
  | [] => ⟨.refl _, .nil⟩
  | a :: r => by
    obtain ⟨h1, h2⟩ := fold_ok ws r
    exact ⟨(insE_perm ws a _).trans (h1.cons a), insE_inc ws a _ h2⟩
theorem sort_one {R : Nat → Nat → Prop} (as : ∀ a b, R a b → R b a → a = b) : ∀ {l m : List Nat}, l.Perm m → l.Pairwise R → m.Pairwise R → l = m
  | [], m, p, _, _ => (List.nil_perm.mp p).symm
  | a :: l, [], p, _, _ => absurd p.length_eq (by simp)
  | a :: l, b :: m, p, h, g => by
    obtain ⟨h1, h2⟩ := List.pairwise_cons.mp h
    obtain ⟨g1, g2⟩ := List.pairwise_cons.mp g
    have e : a = b := by
      rcases List.mem_cons.mp (p.mem_iff.mp (List.mem_cons_self ..)) with e | ha
      · exact e
      · rcases List.mem_cons.mp (p.mem_iff.mpr (List.mem_cons_self ..)) with e | hb
        · exact e.symm
        · exact as a b (h1 b hb) (g1 a ha)
    subst e
    rw [sort_one as (List.Perm.cons_inv p) h2 g2]
theorem ord_is {ws : List Wd} {f : Int} {l : List Nat} (p : l.Perm (inF ws f)) (h : l.Pairwise (fun x y => leE ws x y = true)) : l = ordF ws f :=
  sort_one (fun _ _ => leE_as) (p.trans (fold_ok ws (inF ws f)).1.symm) h (fold_ok ws (inF ws f)).2
theorem ord_mem {ws : List Wd} {f : Int} {k : Nat} : k ∈ ordF ws f ↔ k < ws.length ∧ f ≤ lo ws k := by
  rw [show (k ∈ ordF ws f ↔ _) from (fold_ok ws (inF ws f)).1.mem_iff]
  unfold inF
  rw [List.mem_filter, List.mem_range, decide_eq_true_eq]
theorem ord_nodup (ws : List Wd) (f : Int) : (ordF ws f).Nodup := (fold_ok ws (inF ws f)).1.nodup_iff.mpr (List.nodup_range.filter _)
theorem ord_len (ws : List Wd) (f : Int) : (ordF ws f).length ≤ ws.length := by
  rw [show (ordF ws f).length = (inF ws f).length from (fold_ok ws (inF ws f)).1.length_eq]
  exact Nat.le_trans (List.length_filter_le ..) (by rw [List.length_range]; exact Nat.le_refl _)
/-- a place in the order: what is ahead ends no later, what is behind no earlier -/
theorem ord_cut {ws : List Wd} {f : Int} {P R : List Nat} {a : Nat} (e : ordF ws f = P ++ a :: R) : (∀ k ∈ P, en ws k ≤ en ws a) ∧ (∀ k ∈ R, en ws a ≤ en ws k) ∧ (P ++ [a]).Nodup ∧ (∀ k ∈ P ++ [a], k < ws.length ∧ f ≤ lo ws k) ∧ (∀ k ∈ R, k < ws.length ∧ f ≤ lo ws k ∧ k ∉ P ++ [a]) := by
  have pw := (fold_ok ws (inF ws f)).2
  have ndp := ord_nodup ws f
  have mm : ∀ k, k ∈ P ++ a :: R → k < ws.length ∧ f ≤ lo ws k := fun k hk => ord_mem.mp (by rw [e]; exact hk)
  rw [show ((inF ws f).foldr (insE ws) []) = ordF ws f from rfl, e] at pw
  rw [e] at ndp
  obtain ⟨p1, p2, p3⟩ := List.pairwise_append.mp pw
  have q := List.pairwise_cons.mp p2
  have le_en : ∀ {x y : Nat}, leE ws x y = true → en ws x ≤ en ws y := fun {x y} h => by
    unfold leE at h
    rw [decide_eq_true_eq] at h
    omega
  have ndp2 : ((P ++ [a]) ++ R).Nodup := by rw [List.append_assoc]; exact ndp
  refine ⟨fun k hk => le_en (p3 k hk a (List.mem_cons_self ..)), fun k hk => le_en (q.1 k hk), (List.nodup_append.mp ndp2).1, fun k hk => ?_, fun k hk => ?_⟩
  · rcases List.mem_append.mp hk with z | z
    · exact mm k (List.mem_append_left _ z)
    · rw [List.mem_singleton.mp z]; exact mm a (List.mem_append_right _ (List.mem_cons_self ..))
  · have := mm k (List.mem_append_right _ (List.mem_cons_of_mem _ hk))
    exact ⟨this.1, this.2, fun z => (List.nodup_append.mp ndp2).2.2 k z k hk rfl⟩
/-! ### leaves -/
def lateP (ws : List Wd) (z : Int) (i j : Nat) : Prop := z < nd ws i + nd ws j ∧ hi ws j < lo ws i + ln ws i ∧ hi ws i < lo ws j + ln ws j
instance (ws : List Wd) (z : Int) (i j : Nat) : Decidable (lateP ws z i j) := by unfold lateP; infer_instance
def lateB (ws : List Wd) (z : Int) : Bool := (List.range ws.length).any fun l => (List.range l).any fun j => decide (lateP ws z j l)
def ldScan (ws : List Wd) (z f : Int) : List Nat → Int → Bool
  | [], _ => false
  | a :: r, w => if z * (en ws a - f) < w + wk ws a then true else ldScan ws z f r (w + wk ws a)
def loadB (ws : List Wd) (z : Int) : Bool := ws.any fun w => ldScan ws z w.1 (ordF ws w.1) 0
def sureP (ws : List Wd) (m : Int) (k : Nat) : Bool := decide (hi ws k ≤ m ∧ m < lo ws k + ln ws k)
def sureL (ws : List Wd) (m : Int) : List Nat := (List.range ws.length).filter (sureP ws m)
def fullB (ws : List Wd) (z : Int) : Bool := ws.any fun w => decide (z < ls (nd ws) (sureL ws w.2.1))
theorem late_iff {ws : List Wd} {z : Int} : lateB ws z = true ↔ ∃ i j, i < j ∧ j < ws.length ∧ lateP ws z i j := by
  unfold lateB
  simp only [List.any_eq_true, List.mem_range, decide_eq_true_eq]
  exact ⟨fun ⟨l, hl, j, hj, p⟩ => ⟨j, l, hj, hl, p⟩, fun ⟨j, l, hj, hl, p⟩ => ⟨l, hl, j, hj, p⟩⟩
theorem lateP_sym {ws : List Wd} {z : Int} {i j : Nat} (h : lateP ws z i j) : lateP ws z j i := by
  unfold lateP at *
  omega
theorem late_of {ws : List Wd} {z : Int} {i j : Nat} (ne : i ≠ j) (hi : i < ws.length) (hj : j < ws.length) (h : lateP ws z i j) : lateB ws z = true := by
  rcases Nat.lt_or_gt_of_ne ne with g | g
  · exact late_iff.mpr ⟨i, j, g, hj, h⟩
  · exact late_iff.mpr ⟨j, i, g, hi, lateP_sym h⟩
theorem scan_iff {ws : List Wd} {z f : Int} : ∀ {l : List Nat} {w : Int}, ldScan ws z f l w = true ↔ ∃ P a R, l = P ++ a :: R ∧ z * (en ws a - f) < w + ls (wk ws) (P ++ [a])
  | [], w => by
    unfold ldScan
    refine ⟨(fun h => by cases h), fun ⟨P, a, R, e, _⟩ => by cases P <;> cases e⟩
  | b :: r, w => by
    unfold ldScan
    by_cases g : z * (en ws b - f) < w + wk ws b
    · rw [if_pos g]
      exact ⟨fun _ => ⟨[], b, r, rfl, by simp only [List.nil_append, ls]; omega⟩, fun _ => rfl⟩
    · rw [if_neg g, scan_iff (l := r)]
      refine ⟨fun ⟨P, a, R, e, h⟩ => ⟨b :: P, a, R, by rw [e]; rfl, by simp only [List.cons_append, ls]; omega⟩, fun ⟨P, a, R, e, h⟩ => ?_⟩
      cases P with
      | nil =>
        cases e
        simp only [List.nil_append, ls] at h
        omega
      | cons c P =>
        cases e
        exact ⟨P, a, R, rfl, by simp only [List.cons_append, ls] at h; omega⟩
theorem gW_at {ws : List Wd} {k : Nat} (h : k < ws.length) : gW ws k = ws[k] := by
  unfold gW; rw [List.getD_eq_getElem?_getD, List.getElem?_eq_getElem h]; rfl
theorem gW_mem {ws : List Wd} {w : Wd} (h : w ∈ ws) : ∃ k, k < ws.length ∧ gW ws k = w := by
  obtain ⟨k, hk, e⟩ := List.mem_iff_getElem.mp h
  exact ⟨k, hk, by rw [gW_at hk, e]⟩
theorem load_iff {ws : List Wd} {z : Int} : loadB ws z = true ↔ ∃ k P a R, k < ws.length ∧ ordF ws (lo ws k) = P ++ a :: R ∧ z * (en ws a - lo ws k) < ls (wk ws) (P ++ [a]) := by
  unfold loadB
  rw [List.any_eq_true]
  refine ⟨fun ⟨w, hw, h⟩ => ?_, fun ⟨k, P, a, R, hk, e, h⟩ => ?_⟩
  · obtain ⟨k, hk, ek⟩ := gW_mem hw
    obtain ⟨P, a, R, e, h⟩ := scan_iff.mp h
    refine ⟨k, P, a, R, hk, ?_, ?_⟩
    · unfold lo; rw [ek]; exact e
    · unfold lo; rw [ek]; omega
  · refine ⟨gW ws k, by rw [gW_at hk]; exact List.getElem_mem hk, scan_iff.mpr ⟨P, a, R, e, ?_⟩⟩
    show z * (en ws a - lo ws k) < _
    omega
theorem full_iff {ws : List Wd} {z : Int} : fullB ws z = true ↔ ∃ k, k < ws.length ∧ z < ls (nd ws) (sureL ws (hi ws k)) := by
  unfold fullB
  rw [List.any_eq_true]
  refine ⟨fun ⟨w, hw, h⟩ => ?_, fun ⟨k, hk, h⟩ => ?_⟩
  · obtain ⟨k, hk, ek⟩ := gW_mem hw
    refine ⟨k, hk, ?_⟩
    unfold hi; rw [ek]
    exact of_decide_eq_true h
  · exact ⟨gW ws k, by rw [gW_at hk]; exact List.getElem_mem hk, decide_eq_true h⟩
theorem sure_mem {ws : List Wd} {m : Int} {k : Nat} : k ∈ sureL ws m ↔ k < ws.length ∧ hi ws k ≤ m ∧ m < lo ws k + ln ws k := by
  unfold sureL sureP
  rw [List.mem_filter, List.mem_range, decide_eq_true_eq]
theorem ls_sub {f : Nat → Int} {p q : Nat → Bool} : ∀ {l : List Nat}, (∀ k ∈ l, 0 ≤ f k) → (∀ k ∈ l, p k = true → q k = true) → ls f (l.filter p) ≤ ls f (l.filter q)
  | [], _, _ => Int.le_refl _
  | a :: r, h, g => by
    have ih := ls_sub (f := f) (p := p) (q := q) (l := r) (fun k hk => h k (List.mem_cons_of_mem _ hk)) fun k hk => g k (List.mem_cons_of_mem _ hk)
    have h1 := h a (List.mem_cons_self ..)
    have g1 := g a (List.mem_cons_self ..)
    by_cases pa : p a = true
    · rw [List.filter_cons_of_pos pa, List.filter_cons_of_pos (g1 pa)]
      simp only [ls]; omega
    · rw [List.filter_cons_of_neg pa]
      by_cases qa : q a = true
      · rw [List.filter_cons_of_pos qa]; simp only [ls]; omega
      · rw [List.filter_cons_of_neg qa]; exact ih
theorem most_of (g : Nat → Int) : ∀ l : List Nat, l ≠ [] → ∃ i ∈ l, ∀ k ∈ l, g k ≤ g i
  | [a], _ => ⟨a, List.mem_cons_self .., fun k hk => by rw [List.mem_singleton.mp hk]; exact Int.le_refl _⟩
  | a :: b :: r, _ => by
    obtain ⟨i, hi, h⟩ := most_of g (b :: r) (by simp)
    by_cases e : g a ≤ g i
    · refine ⟨i, List.mem_cons_of_mem _ hi, fun k hk => ?_⟩
      rcases List.mem_cons.mp hk with rfl | hk
      · exact e
      · exact h k hk
    · refine ⟨a, List.mem_cons_self .., fun k hk => ?_⟩
      rcases List.mem_cons.mp hk with rfl | hk
      · exact Int.le_refl _
      · have := h k hk; omega
/-- too much that is sure at any moment is a full leaf -/
theorem full_of {ws : List Wd} {z : Int} (ok : WsOk ws z) {m : Int} (h : z < ls (nd ws) (sureL ws m)) (z0 : 0 ≤ z) : fullB ws z = true := by
  have ne : sureL ws m ≠ [] := fun e => by rw [e] at h; simp only [ls] at h; omega
  obtain ⟨i, mi, mx⟩ := most_of (hi ws) _ ne
  have si := sure_mem.mp mi
  refine full_iff.mpr ⟨i, si.1, Int.lt_of_lt_of_le h ?_⟩
  refine ls_sub (fun k hk => by have := ok.nd1 k (List.mem_range.mp hk); omega) fun k hk sk => ?_
  have mk : k ∈ sureL ws m := List.mem_filter.mpr ⟨hk, sk⟩
  have h1 := sure_mem.mp mk
  have h2 := mx k mk
  unfold sureP
  rw [decide_eq_true_eq]
  omega
/-! ### starts -/
def mx2 : Option Int → Option Int → Option Int
  | none, b => b
  | some x, none => some x
  | some x, some y => if x < y then some y else some x
def mxO (l : List Int) : Option Int := l.foldl (fun b x => mx2 b (some x)) none
def IsMx (o : Option Int) (l : List Int) : Prop := match o with
  | none => l = []
  | some m => m ∈ l ∧ ∀ x ∈ l, x ≤ m
theorem mx2_is {a b : Option Int} {l m : List Int} (h : IsMx a l) (g : IsMx b m) : IsMx (mx2 a b) (l ++ m) := by
  cases a with
  | none =>
    have h : l = [] := h
    subst h
    rw [List.nil_append]; exact g
  | some x =>
    obtain ⟨h1, h2⟩ := h
    cases b with
    | none =>
      have g : m = [] := g
      subst g
      rw [List.append_nil]; exact ⟨h1, h2⟩
    | some y =>
      obtain ⟨g1, g2⟩ := g
      show IsMx (if x < y then some y else some x) _
      split
      · refine ⟨List.mem_append_right _ g1, fun v hv => ?_⟩
        rcases List.mem_append.mp hv with z | z
        · have := h2 v z; omega
        · exact g2 v z
      · refine ⟨List.mem_append_left _ h1, fun v hv => ?_⟩
        rcases List.mem_append.mp hv with z | z
        · exact h2 v z
        · have := g2 v z; omega
theorem mxO_fold : ∀ (l : List Int) (b : Option Int) (m : List Int), IsMx b m → IsMx (l.foldl (fun b x => mx2 b (some x)) b) (m ++ l)
  | [], b, m, h => by rw [List.append_nil]; exact h
  | x :: l, b, m, h => by
    have := mxO_fold l (mx2 b (some x)) (m ++ [x]) (mx2_is h ⟨List.mem_singleton.mpr rfl, fun v hv => by rw [List.mem_singleton.mp hv]; exact Int.le_refl _⟩)
    rw [List.append_assoc] at this
    exact this
theorem mxO_is (l : List Int) : IsMx (mxO l) l := mxO_fold l none [] rfl
theorem isMx_one {o o' : Option Int} {l m : List Int} (h : IsMx o l) (g : IsMx o' m) (e : ∀ x, x ∈ l ↔ x ∈ m) : o = o' := by
  cases o with
  | none =>
    have h : l = [] := h
    cases o' with
    | none => rfl
    | some y => have := (e y).mpr g.1; rw [h] at this; cases this
  | some x =>
    cases o' with
    | none =>
      have g : m = [] := g
      have := (e x).mp h.1; rw [g] at this; cases this
    | some y =>
      have h1 := h.2 y ((e y).mpr g.1)
      have h2 := g.2 x ((e x).mp h.1)
      rw [show x = y by omega]
theorem mxO_cong {l m : List Int} (e : ∀ x, x ∈ l ↔ x ∈ m) : mxO l = mxO m := isMx_one (mxO_is l) (mxO_is m) e
theorem mxO_app (l m : List Int) : mx2 (mxO l) (mxO m) = mxO (l ++ m) := isMx_one (mx2_is (mxO_is l) (mxO_is m)) (mxO_is _) fun _ => Iff.rfl
def lateC (ws : List Wd) (z : Int) (j : Nat) : List Int := ((List.range ws.length).filter fun o => decide (o ≠ j ∧ z < nd ws j + nd ws o ∧ hi ws o < lo ws j + ln ws j)).map fun o => lo ws o + ln ws o
def loadC1 (ws : List Wd) (z : Int) (j : Nat) (f : Int) : List Nat → Int → List Int
  | [], _ => []
  | a :: r, w => (if j ∈ r ∧ z * (en ws a - f) < w + wk ws a + wk ws j then [f - -(w + wk ws a + wk ws j) / z - ln ws j] else []) ++ loadC1 ws z j f r (w + wk ws a)
def loadC (ws : List Wd) (z : Int) (j : Nat) : List Int := ws.flatMap fun w => loadC1 ws z j w.1 (ordF ws w.1) 0
def overP (ws : List Wd) (z : Int) (j : Nat) (m : Int) : Prop := z < ls (nd ws) ((sureL ws m).filter fun o => decide (o ≠ j)) + nd ws j
instance (ws : List Wd) (z : Int) (j : Nat) (m : Int) : Decidable (overP ws z j m) := by unfold overP; infer_instance
def momL (ws : List Wd) (j : Nat) : List Int := (lo ws j + ln ws j - 1) :: ws.map fun w => w.1 + w.2.2.1 - 1
def fullC (ws : List Wd) (z : Int) (j : Nat) : List Int := ((momL ws j).filter fun m => decide (m ≤ lo ws j + ln ws j - 1 ∧ overP ws z j m)).map (· + 1)
def leafB (room : Bool) (ws : List Wd) (z : Int) : Bool := lateB ws z || (loadB ws z || (room && fullB ws z))
def startC (room : Bool) (ws : List Wd) (z : Int) (j : Nat) : List Int := (lateC ws z j ++ loadC ws z j) ++ if room then fullC ws z j else []
theorem late_mem {ws : List Wd} {z : Int} {j : Nat} {v : Int} : v ∈ lateC ws z j ↔ ∃ o, o < ws.length ∧ o ≠ j ∧ z < nd ws j + nd ws o ∧ hi ws o < lo ws j + ln ws j ∧ v = lo ws o + ln ws o := by
  unfold lateC
  rw [List.mem_map]
  refine ⟨fun ⟨o, ho, e⟩ => ?_, fun ⟨o, h1, h2, h3, h4, e⟩ => ⟨o, List.mem_filter.mpr ⟨List.mem_range.mpr h1, decide_eq_true ⟨h2, h3, h4⟩⟩, e.symm⟩⟩
  obtain ⟨h1, h2⟩ := List.mem_filter.mp ho
  obtain ⟨a, b, c⟩ := of_decide_eq_true h2
  exact ⟨o, List.mem_range.mp h1, a, b, c, e.symm⟩
theorem load1_mem {ws : List Wd} {z : Int} {j : Nat} {f v : Int} : ∀ {l : List Nat} {w : Int}, v ∈ loadC1 ws z j f l w ↔ ∃ P a R, l = P ++ a :: R ∧ j ∈ R ∧ z * (en ws a - f) < w + ls (wk ws) (P ++ [a]) + wk ws j ∧ v = f - -(w + ls (wk ws) (P ++ [a]) + wk ws j) / z - ln ws j
  | [], w => by
    unfold loadC1
    refine ⟨(fun h => by cases h), fun ⟨P, a, R, e, _⟩ => by cases P <;> cases e⟩
  | b :: r, w => by
    unfold loadC1
    rw [List.mem_append, load1_mem (l := r)]
    have e1 : ∀ P (a : Nat), w + wk ws b + ls (wk ws) (P ++ [a]) = w + ls (wk ws) (b :: P ++ [a]) := fun P a => by simp only [List.cons_append, ls]; omega
    have e0 : w + wk ws b = w + ls (wk ws) ([] ++ [b]) := by simp only [List.nil_append, ls]; omega
    refine ⟨fun h => ?_, fun ⟨P, a, R, e, h1, h2, h3⟩ => ?_⟩
    · rcases h with h | ⟨P, a, R, e, h1, h2, h3⟩
      · split at h
        · rename_i c
          rw [List.mem_singleton] at h
          exact ⟨[], b, r, rfl, c.1, by rw [← e0]; exact c.2, by rw [← e0]; exact h⟩
        · cases h
      · exact ⟨b :: P, a, R, by rw [e]; rfl, h1, by rw [← e1]; exact h2, by rw [← e1]; exact h3⟩
    · cases P with
      | nil =>
        cases e
        rw [← e0] at h2 h3
        left
        rw [if_pos ⟨h1, h2⟩]
        exact List.mem_singleton.mpr h3
      | cons c P =>
        cases e
        right
        exact ⟨P, a, R, rfl, h1, by rw [e1]; exact h2, by rw [e1]; exact h3⟩
theorem load_mem {ws : List Wd} {z : Int} {j : Nat} {v : Int} : v ∈ loadC ws z j ↔ ∃ k P a R, k < ws.length ∧ ordF ws (lo ws k) = P ++ a :: R ∧ j ∈ R ∧ z * (en ws a - lo ws k) < ls (wk ws) (P ++ [a]) + wk ws j ∧ v = lo ws k - -(ls (wk ws) (P ++ [a]) + wk ws j) / z - ln ws j := by
  unfold loadC
  rw [List.mem_flatMap]
  refine ⟨fun ⟨w, hw, h⟩ => ?_, fun ⟨k, P, a, R, hk, e, h1, h2, h3⟩ => ⟨gW ws k, by rw [gW_at hk]; exact List.getElem_mem hk, load1_mem.mpr ⟨P, a, R, e, h1, ?_, ?_⟩⟩⟩
  · obtain ⟨k, hk, ek⟩ := gW_mem hw
    obtain ⟨P, a, R, e, h1, h2, h3⟩ := load1_mem.mp h
    rw [Int.zero_add] at h2 h3
    refine ⟨k, P, a, R, hk, ?_, h1, ?_, ?_⟩ <;> unfold lo <;> rw [ek] <;> assumption
  · rw [Int.zero_add]; exact h2
  · rw [Int.zero_add]; exact h3
theorem full_mem {ws : List Wd} {z : Int} {j : Nat} {v : Int} : v ∈ fullC ws z j ↔ ∃ m, m ∈ momL ws j ∧ m ≤ lo ws j + ln ws j - 1 ∧ overP ws z j m ∧ v = m + 1 := by
  unfold fullC
  rw [List.mem_map]
  refine ⟨fun ⟨o, ho, e⟩ => ?_, fun ⟨o, h1, h2, h3, e⟩ => ⟨o, List.mem_filter.mpr ⟨h1, decide_eq_true ⟨h2, h3⟩⟩, e.symm⟩⟩
  obtain ⟨h1, h2⟩ := List.mem_filter.mp ho
  obtain ⟨a, b⟩ := of_decide_eq_true h2
  exact ⟨o, h1, a, b, e.symm⟩
end M60

namespace M60
open M12 (Sn ld net Pos ld_nn cov lb lb_le lb_step lb_nil)
/-! ### leaves and starts are true of all starts that keep the size -/
section
variable {ws : List Wd} {z : Int} {S : Nat → Int}
theorem late_no (ok : WsOk ws z) (kp : Kp ws z S) (inw : InW ws S) : lateB ws z = false := by
  cases h : lateB ws z with
  | false => rfl
  | true =>
    exfalso
    obtain ⟨i, j, ij, hj, p⟩ := late_iff.mp h
    have hi' : i < ws.length := by omega
    have wi := inw i hi'; have wj := inw j hj
    unfold lateP at p
    rcases kp_pair ok kp hi' hj (by omega) p.1 with g | g <;> omega
theorem in_list (inw : InW ws S) {P : List Nat} {f t : Int} (h : ∀ k ∈ P, k < ws.length ∧ f ≤ lo ws k) (g : ∀ k ∈ P, en ws k ≤ t) : ∀ k ∈ P, f ≤ S k ∧ S k + ln ws k ≤ t := fun k hk => by
  obtain ⟨h1, h2⟩ := h k hk
  have h3 := g k hk
  have := inw k h1
  unfold en at h3
  omega
theorem cut_le {f : Int} {P R : List Nat} {a : Nat} (e : ordF ws f = P ++ a :: R) : ∀ k ∈ P ++ [a], en ws k ≤ en ws a := fun k hk => by
  rcases List.mem_append.mp hk with q | q
  · exact (ord_cut e).1 k q
  · rw [List.mem_singleton.mp q]; exact Int.le_refl _
theorem f_le (ok : WsOk ws z) {f : Int} {a : Nat} (ha : a < ws.length ∧ f ≤ lo ws a) : f ≤ en ws a := by
  have h1 := ok.ord a ha.1; have h2 := ok.len a ha.1
  unfold en; omega
theorem load_no (ok : WsOk ws z) (kp : Kp ws z S) (inw : InW ws S) : loadB ws z = false := by
  cases h : loadB ws z with
  | false => rfl
  | true =>
    exfalso
    obtain ⟨k, P, a, R, hk, e, big⟩ := load_iff.mp h
    obtain ⟨c1, c2, c3, c4, c5⟩ := ord_cut e
    have ha := c4 a (List.mem_append_right _ (List.mem_cons_self ..))
    have := kp_work ok kp (f_le ok ha) c3 (fun k hk => (c4 k hk).1) (in_list inw c4 (cut_le e))
    omega
theorem sure_run (inw : InW ws S) {m : Int} : ∀ k ∈ sureL ws m, S k ≤ m ∧ m < S k + ln ws k := fun k hk => by
  obtain ⟨h1, h2, h3⟩ := sure_mem.mp hk
  have := inw k h1
  omega
theorem sure_nodup (m : Int) : (sureL ws m).Nodup := List.nodup_range.filter _
theorem full_no (ok : WsOk ws z) (kp : Kp ws z S) (inw : InW ws S) : fullB ws z = false := by
  cases h : fullB ws z with
  | false => rfl
  | true =>
    exfalso
    obtain ⟨k, hk, big⟩ := full_iff.mp h
    have := kp_list ok kp (sure_nodup _) (fun k hk => (sure_mem.mp hk).1) (sure_run inw (m := hi ws k))
    omega
theorem leaf_no (ok : WsOk ws z) (kp : Kp ws z S) (inw : InW ws S) (room : Bool) : leafB room ws z = false := by
  unfold leafB
  rw [late_no ok kp inw, load_no ok kp inw, full_no ok kp inw]
  cases room <;> rfl
theorem late_st (ok : WsOk ws z) (kp : Kp ws z S) (inw : InW ws S) {j : Nat} (hj : j < ws.length) {v : Int} (h : v ∈ lateC ws z j) : v ≤ S j := by
  obtain ⟨o, ho, ne, big, g, rfl⟩ := late_mem.mp h
  have wo := inw o ho; have wj := inw j hj
  rcases kp_pair ok kp hj ho (fun e => ne e.symm) big with q | q <;> omega
theorem ceil_le {t y : Int} (z0 : 0 < z) (h : t ≤ z * y) : -(-t / z) ≤ y := by
  have : -y ≤ -t / z := (Int.le_ediv_iff_mul_le z0).mpr (by rw [Int.neg_mul, Int.mul_comm]; omega)
  omega
theorem ceil_gt {t y : Int} (z0 : 0 < z) (h : y < -(-t / z)) : z * y < t := by
  have : -t / z < -y := by omega
  have := (Int.ediv_lt_iff_lt_mul z0).mp this
  rw [Int.neg_mul, Int.mul_comm] at this
  omega
theorem load_st (ok : WsOk ws z) (z0 : 0 < z) (kp : Kp ws z S) (inw : InW ws S) {j : Nat} (hj : j < ws.length) {v : Int} (h : v ∈ loadC ws z j) : v ≤ S j := by
  obtain ⟨k, P, a, R, hk, e, mj, big, rfl⟩ := load_mem.mp h
  obtain ⟨c1, c2, c3, c4, c5⟩ := ord_cut e
  have ha := c4 a (List.mem_append_right _ (List.mem_cons_self ..))
  have hj' := c5 j mj
  have wj := inw j hj
  have inn := in_list inw c4 (cut_le e)
  have lj := ok.len j hj
  have nd2 : (P ++ [a] ++ [j]).Nodup := List.nodup_append.mpr ⟨c3, by simp, fun x hx y hy => by rw [List.mem_singleton.mp hy]; intro q; rw [q] at hx; exact hj'.2.2 hx⟩
  have lt2 : ∀ k ∈ P ++ [a] ++ [j], k < ws.length := fun k hk => by
    rcases List.mem_append.mp hk with q | q
    · exact (c4 k q).1
    · rw [List.mem_singleton.mp q]; exact hj
  have tot : ls (wk ws) (P ++ [a] ++ [j]) = ls (wk ws) (P ++ [a]) + wk ws j := by rw [ls_app]; simp only [ls]; omega
  rcases Int.lt_or_le (en ws a) (S j + ln ws j) with g | g
  · have w := kp_work ok kp (f := lo ws k) (t := S j + ln ws j) (by have := f_le ok ha; omega) nd2 lt2 fun k hk => by
      rcases List.mem_append.mp hk with q | q
      · have := inn k q; omega
      · rw [List.mem_singleton.mp q]; omega
    rw [tot] at w
    have := ceil_le z0 w
    omega
  · exfalso
    have w := kp_work ok kp (f := lo ws k) (t := en ws a) (f_le ok ha) nd2 lt2 fun k hk => by
      rcases List.mem_append.mp hk with q | q
      · exact inn k q
      · rw [List.mem_singleton.mp q]; omega
    rw [tot] at w
    omega
theorem full_st (ok : WsOk ws z) (kp : Kp ws z S) (inw : InW ws S) {j : Nat} (hj : j < ws.length) {v : Int} (h : v ∈ fullC ws z j) : v ≤ S j := by
  obtain ⟨m, mm, ml, ov, rfl⟩ := full_mem.mp h
  have wj := inw j hj
  rcases Int.lt_or_le m (S j) with g | g
  · omega
  · exfalso
    unfold overP at ov
    have q := kp_list ok kp (m := m) (P := (sureL ws m).filter (fun o => decide (o ≠ j)) ++ [j]) (List.nodup_append.mpr ⟨(sure_nodup m).filter _, by simp, fun x hx y hy => by
      rw [List.mem_singleton.mp hy]
      exact of_decide_eq_true (List.mem_filter.mp hx).2⟩) (fun k hk => by
      rcases List.mem_append.mp hk with q | q
      · exact (sure_mem.mp (List.mem_filter.mp q).1).1
      · rw [List.mem_singleton.mp q]; exact hj) (fun k hk => by
      rcases List.mem_append.mp hk with q | q
      · exact sure_run inw k (List.mem_filter.mp q).1
      · rw [List.mem_singleton.mp q]; omega)
    rw [ls_app] at q
    simp only [ls] at q
    omega
theorem start_st (ok : WsOk ws z) (z0 : 0 < z) (kp : Kp ws z S) (inw : InW ws S) (room : Bool) {j : Nat} (hj : j < ws.length) {v : Int} (h : v ∈ startC room ws z j) : v ≤ S j := by
  unfold startC at h
  rcases List.mem_append.mp h with h | h
  · rcases List.mem_append.mp h with h | h
    · exact late_st ok kp inw hj h
    · exact load_st ok z0 kp inw hj h
  · cases room with
    | false => cases h
    | true => exact full_st ok kp inw hj h
/-! ### where there is no leaf, starts lie within -/
theorem late_hi (nl : lateB ws z = false) {j : Nat} (hj : j < ws.length) {v : Int} (h : v ∈ lateC ws z j) : v ≤ hi ws j := by
  obtain ⟨o, ho, ne, big, g, rfl⟩ := late_mem.mp h
  rcases Int.lt_or_le (hi ws j) (lo ws o + ln ws o) with q | q
  · exfalso
    rw [late_of (i := j) (j := o) (fun e => ne e.symm) hj ho ⟨big, g, q⟩] at nl
    cases nl
  · exact q
theorem load_hi (ok : WsOk ws z) (z0 : 0 < z) (nl : loadB ws z = false) {j : Nat} (hj : j < ws.length) {v : Int} (h : v ∈ loadC ws z j) : v ≤ hi ws j := by
  obtain ⟨k, P, a, R, hk, e, mj, big, rfl⟩ := load_mem.mp h
  rcases Int.lt_or_le (hi ws j) (lo ws k - -(ls (wk ws) (P ++ [a]) + wk ws j) / z - ln ws j) with q | q
  · exfalso
    have q2 : en ws j - lo ws k < -(-(ls (wk ws) (P ++ [a]) + wk ws j) / z) := by unfold en; omega
    have q3 := ceil_gt z0 q2
    obtain ⟨R1, R2, eR⟩ := List.append_of_mem mj
    have e2 : ordF ws (lo ws k) = (P ++ [a] ++ R1) ++ j :: R2 := by rw [e, eR]; simp
    obtain ⟨c1, c2, c3, c4, c5⟩ := ord_cut e2
    have n0 : 0 ≤ ls (wk ws) R1 := ls_nn fun k hk => by
      have := (c4 k (List.mem_append_left _ (List.mem_append_right _ hk))).1
      have := wk_nn ok this
      omega
    have t : ls (wk ws) (P ++ [a] ++ R1 ++ [j]) = ls (wk ws) (P ++ [a]) + ls (wk ws) R1 + wk ws j := by rw [ls_app, ls_app]; simp only [ls]; omega
    rw [load_iff.mpr ⟨k, _, j, R2, hk, e2, by rw [t]; omega⟩] at nl
    cases nl
  · exact q
theorem ls_ne {f : Nat → Int} {j : Nat} : ∀ {l : List Nat}, l.Nodup → j ∈ l → ls f l = ls f (l.filter fun o => decide (o ≠ j)) + f j
  | a :: r, nd, h => by
    obtain ⟨h1, h2⟩ := List.nodup_cons.mp nd
    by_cases e : a = j
    · subst e
      rw [List.filter_cons_of_neg (by simp)]
      have : r.filter (fun o => decide (o ≠ a)) = r := List.filter_eq_self.mpr fun x hx => decide_eq_true fun q => h1 (by rw [← q]; exact hx)
      rw [this]
      simp only [ls]; omega
    · rw [List.filter_cons_of_pos (by simpa using e)]
      have hr : j ∈ r := by
        rcases List.mem_cons.mp h with q | q
        · exact absurd q.symm e
        · exact q
      have := ls_ne (f := f) h2 hr
      simp only [ls]; omega
theorem full_hi (ok : WsOk ws z) (z0 : 0 < z) (nl : fullB ws z = false) {j : Nat} (hj : j < ws.length) {v : Int} (h : v ∈ fullC ws z j) : v ≤ hi ws j := by
  obtain ⟨m, mm, ml, ov, rfl⟩ := full_mem.mp h
  rcases Int.lt_or_le m (hi ws j) with g | g
  · omega
  · exfalso
    have mj : j ∈ sureL ws m := sure_mem.mpr ⟨hj, g, by omega⟩
    unfold overP at ov
    rw [← ls_ne (sure_nodup m) mj] at ov
    rw [full_of ok ov (by omega)] at nl
    cases nl
theorem start_hi (ok : WsOk ws z) (z0 : 0 < z) (room : Bool) (nl : leafB room ws z = false) {j : Nat} (hj : j < ws.length) {v : Int} (h : v ∈ startC room ws z j) : v ≤ hi ws j := by
  unfold leafB at nl
  rw [Bool.or_eq_false_iff, Bool.or_eq_false_iff] at nl
  unfold startC at h
  rcases List.mem_append.mp h with h | h
  · rcases List.mem_append.mp h with h | h
    · exact late_hi nl.1 hj h
    · exact load_hi ok z0 nl.2.1 hj h
  · cases room with
    | false => cases h
    | true => exact full_hi ok z0 nl.2.2 hj h
/-! ### moments -/
/-- the starts suffice -/
theorem kp_starts (ok : WsOk ws z) (z0 : 0 ≤ z) (h : ∀ j, j < ws.length → ld (spW ws S ws.length) (S j) ≤ z) : Kp ws z S := fun m => by
  by_cases e : (List.range ws.length).filter (fun k => decide (S k ≤ m ∧ m < S k + ln ws k)) = []
  · rw [ld_sg]
    have : sg (fun k => if S k ≤ m ∧ m < S k + ln ws k then nd ws k else 0) ws.length = sg (fun _ => 0) ws.length := sg_cong fun k hk => by
      rw [if_neg]
      intro q
      have : k ∈ (List.range ws.length).filter (fun k => decide (S k ≤ m ∧ m < S k + ln ws k)) := List.mem_filter.mpr ⟨List.mem_range.mpr hk, decide_eq_true q⟩
      rw [e] at this; cases this
    rw [this]
    have z : ∀ n, sg (fun _ => 0) n = 0 := fun n => by
      induction n with
      | zero => rfl
      | succ n ih => simp only [sg, ih]; rfl
    rw [z]; exact z0
  · obtain ⟨i, mi, mx⟩ := most_of S _ e
    obtain ⟨h1, h2⟩ := List.mem_filter.mp mi
    have h1 := List.mem_range.mp h1
    have h2 := of_decide_eq_true h2
    refine Int.le_trans ?_ (h i h1)
    rw [ld_sg, ld_sg]
    refine sg_le fun k hk => ?_
    have n1 := ok.nd1 k hk
    by_cases q : S k ≤ m ∧ m < S k + ln ws k
    · have := mx k (List.mem_filter.mpr ⟨List.mem_range.mpr hk, decide_eq_true q⟩)
      rw [if_pos q, if_pos (by omega)]; exact Int.le_refl _
    · rw [if_neg q]; split <;> omega
/-- at a point a leaf tells all that is too much -/
theorem point_leaf (ok : WsOk ws z) (z0 : 0 < z) (pt : ∀ k, k < ws.length → lo ws k = hi ws k) (room : Bool) (hb : room = false → z = 1 ∧ ∀ k, k < ws.length → nd ws k = 1) (nl : leafB room ws z = false) : Kp ws z (lo ws) := fun m => by
  have e : ld (spW ws (lo ws) ws.length) m = ls (nd ws) (sureL ws m) := by
    rw [ld_sg, ls_sg (nd ws) (sure_nodup m) fun k hk => (sure_mem.mp hk).1]
    refine sg_cong fun k hk => ?_
    by_cases q : k ∈ sureL ws m
    · have := sure_mem.mp q
      rw [if_pos q, if_pos (by have := pt k hk; omega)]
    · rw [if_neg q, if_neg]
      intro r
      exact q (sure_mem.mpr ⟨hk, by have := pt k hk; omega, r.2⟩)
  rw [e]
  rcases Int.lt_or_le z (ls (nd ws) (sureL ws m)) with g | g
  · exfalso
    unfold leafB at nl
    rw [Bool.or_eq_false_iff, Bool.or_eq_false_iff] at nl
    cases room with
    | true =>
      have := full_of ok g (by omega)
      rw [this] at nl
      cases nl.2.2
    | false =>
      obtain ⟨e1, e2⟩ := hb rfl
      have mem := fun k (hk : k ∈ sureL ws m) => sure_mem.mp hk
      have pw : (sureL ws m).Pairwise (· < ·) := List.pairwise_lt_range.filter _
      match hs : sureL ws m with
      | [] => rw [hs] at g; simp only [ls] at g; omega
      | [a] =>
        rw [hs] at g mem
        have := e2 a (mem a (List.mem_cons_self ..)).1
        simp only [ls] at g; omega
      | a :: b :: r =>
        rw [hs] at mem pw
        have ma := mem a (List.mem_cons_self ..)
        have mb := mem b (List.mem_cons_of_mem _ (List.mem_cons_self ..))
        have ab : a < b := (List.pairwise_cons.mp pw).1 b (List.mem_cons_self ..)
        have na := e2 a ma.1; have nb := e2 b mb.1
        have := late_of (ws := ws) (z := z) (by omega) ma.1 mb.1 ⟨by omega, by omega, by omega⟩
        rw [this] at nl
        cases nl.1
  · exact g
end
/-! ### time run backwards -/
def bwW (w : Wd) : Wd := (-w.2.1 - w.2.2.1, -w.1 - w.2.2.1, w.2.2.1, w.2.2.2)
def bw (ws : List Wd) : List Wd := ws.map bwW
theorem bw_len (ws : List Wd) : (bw ws).length = ws.length := List.length_map _
theorem bw_at {ws : List Wd} {k : Nat} (h : k < ws.length) : gW (bw ws) k = bwW (gW ws k) := by
  rw [gW_at h, gW_at (by rw [bw_len]; exact h)]
  unfold bw
  rw [List.getElem_map]
theorem bw_ok {ws : List Wd} {z : Int} (ok : WsOk ws z) : WsOk (bw ws) z := by
  constructor <;> intro k hk <;> rw [bw_len] at hk
  · have := ok.ord k hk
    unfold lo hi at *
    rw [bw_at hk]
    show -(gW ws k).2.1 - _ ≤ -(gW ws k).1 - _
    omega
  · have := ok.len k hk
    unfold ln at *
    rw [bw_at hk]; exact this
  · have := ok.nd1 k hk
    unfold nd at *
    rw [bw_at hk]; exact this
  · have := ok.ndz k hk
    unfold nd at *
    rw [bw_at hk]; exact this
theorem bw_kp {ws : List Wd} {z : Int} {S : Nat → Int} (kp : Kp ws z S) : Kp (bw ws) z (fun k => -S k - ln ws k) := fun m => by
  refine Int.le_trans (Int.le_of_eq ?_) (kp (-1 - m))
  rw [ld_sg, ld_sg, bw_len]
  refine sg_cong fun k hk => ?_
  have e1 : ln (bw ws) k = ln ws k := by unfold ln; rw [bw_at hk]; rfl
  have e2 : nd (bw ws) k = nd ws k := by unfold nd; rw [bw_at hk]; rfl
  rw [e1, e2]
  repeat' split
  all_goals omega
theorem bw_in {ws : List Wd} {S : Nat → Int} (inw : InW ws S) : InW (bw ws) (fun k => -S k - ln ws k) := fun k hk => by
  rw [bw_len] at hk
  have := inw k hk
  unfold lo hi at *
  rw [bw_at hk]
  show -(gW ws k).2.1 - ln ws k ≤ -S k - ln ws k ∧ -S k - ln ws k ≤ -(gW ws k).1 - ln ws k
  omega
end M60

namespace M60
open M12 (Sn ld net Pos ld_nn cov lb lb_le lb_step lb_nil)
/-! ### boxes and draws -/
abbrev Jb := Nat × Int × Int
abbrev Bx := List (Int × Int)
/-- place, side, value -/
abbrev Dr := Nat × Int × Int
def bxAt (b : Bx) (p : Nat) : Int × Int := b.getD p (0, 0)
def jA (js : List Jb) (k : Nat) : Jb := js.getD k (0, 0, 0)
def winJ (b : Bx) (j : Jb) : Wd := ((bxAt b j.1).1, (bxAt b j.1).2, j.2.1, j.2.2)
def wsOf (js : List Jb) (b : Bx) : List Wd := js.map (winJ b)
structure JsOk (n : Nat) (z : Int) (js : List Jb) : Prop where
  inc : js.Pairwise fun a b => a.1 < b.1
  pl : ∀ j ∈ js, j.1 < n
  len : ∀ j ∈ js, 1 ≤ j.2.1
  nd1 : ∀ j ∈ js, 1 ≤ j.2.2
  ndz : ∀ j ∈ js, j.2.2 ≤ z
def BxOk (b : Bx) : Prop := ∀ x ∈ b, x.1 ≤ x.2
theorem jA_at {js : List Jb} {k : Nat} (h : k < js.length) : jA js k = js[k] := by
  unfold jA; rw [List.getD_eq_getElem?_getD, List.getElem?_eq_getElem h]; rfl
theorem jA_mem {js : List Jb} {k : Nat} (h : k < js.length) : jA js k ∈ js := by rw [jA_at h]; exact List.getElem_mem h
theorem ws_len (js : List Jb) (b : Bx) : (wsOf js b).length = js.length := List.length_map _
theorem ws_at {js : List Jb} {b : Bx} {k : Nat} (h : k < js.length) : gW (wsOf js b) k = winJ b (jA js k) := by
  rw [gW_at (by rw [ws_len]; exact h), jA_at h]
  unfold wsOf
  rw [List.getElem_map]
theorem jA_ne {n : Nat} {z : Int} {js : List Jb} (ok : JsOk n z js) {i k : Nat} (hi : i < js.length) (hk : k < js.length) (ne : i ≠ k) : (jA js i).1 ≠ (jA js k).1 := by
  rw [jA_at hi, jA_at hk]
  have := List.pairwise_iff_getElem.mp ok.inc
  rcases Nat.lt_or_gt_of_ne ne with g | g
  · have := this i k hi hk g; omega
  · have := this k i hk hi g; omega
theorem bx_mem {b : Bx} {p : Nat} (h : p < b.length) : bxAt b p ∈ b := by
  unfold bxAt; rw [List.getD_eq_getElem?_getD, List.getElem?_eq_getElem h]; exact List.getElem_mem h
theorem bx_set {b : Bx} {p i : Nat} {x : Int × Int} (h : p < b.length) : bxAt (b.set p x) i = if i = p then x else bxAt b i := by
  unfold bxAt
  rw [List.getD_eq_getElem?_getD, List.getD_eq_getElem?_getD, List.getElem?_set]
  by_cases e : p = i
  · subst e
    rw [if_pos rfl, if_pos h, if_pos rfl]; rfl
  · rw [if_neg e, if_neg (fun q => e q.symm)]
theorem ws_ok {n : Nat} {z : Int} {js : List Jb} {b : Bx} (ok : JsOk n z js) (bo : BxOk b) (bl : b.length = n) : WsOk (wsOf js b) z := by
  constructor <;> intro k hk <;> rw [ws_len] at hk <;> have m := jA_mem hk
  · unfold lo hi
    rw [ws_at hk]
    exact bo _ (bx_mem (by rw [bl]; exact ok.pl _ m))
  · unfold ln
    rw [ws_at hk]
    exact ok.len _ m
  · unfold nd
    rw [ws_at hk]
    exact ok.nd1 _ m
  · unfold nd
    rw [ws_at hk]
    exact ok.ndz _ m
def putD (b : Bx) (d : Dr) : Bx := b.set d.1 (if d.2.1 = 0 then (d.2.2, (bxAt b d.1).2) else ((bxAt b d.1).1, d.2.2))
def okD (b : Bx) (d : Dr) : Prop := d.1 < b.length ∧ ((d.2.1 = 0 ∧ (bxAt b d.1).1 < d.2.2 ∧ d.2.2 ≤ (bxAt b d.1).2) ∨ (d.2.1 = 1 ∧ (bxAt b d.1).1 ≤ d.2.2 ∧ d.2.2 < (bxAt b d.1).2))
inductive Chain : Bx → List Dr → Prop
  | nil (b : Bx) : Chain b []
  | cons {b : Bx} {d : Dr} {D : List Dr} : okD b d → Chain (putD b d) D → Chain b (d :: D)
theorem Chain.app : ∀ {A : List Dr} {b : Bx} {B : List Dr}, Chain b A → Chain (A.foldl putD b) B → Chain b (A ++ B)
  | [], b, B, _, h => h
  | d :: A, b, B, .cons h t, g => .cons h (t.app g)
theorem put_len (b : Bx) (d : Dr) : (putD b d).length = b.length := List.length_set ..
theorem fold_len : ∀ (D : List Dr) (b : Bx), (D.foldl putD b).length = b.length
  | [], b => rfl
  | d :: D, b => by rw [List.foldl_cons, fold_len D, put_len]
theorem put_at {b : Bx} {d : Dr} (h : d.1 < b.length) (p : Nat) : bxAt (putD b d) p = if p = d.1 then (if d.2.1 = 0 then (d.2.2, (bxAt b d.1).2) else ((bxAt b d.1).1, d.2.2)) else bxAt b p := bx_set h
theorem fold_off {p : Nat} : ∀ (D : List Dr) (b : Bx), (∀ d ∈ D, d.1 ≠ p) → bxAt (D.foldl putD b) p = bxAt b p
  | [], b, _ => rfl
  | d :: D, b, h => by
    rw [List.foldl_cons, fold_off D _ fun e he => h e (List.mem_cons_of_mem _ he)]
    have hd := h d (List.mem_cons_self ..)
    unfold putD bxAt
    rw [List.getD_eq_getElem?_getD, List.getElem?_set, if_neg hd]
    exact (List.getD_eq_getElem?_getD ..).symm
def sumB : Bx → Int
  | [] => 0
  | x :: r => (x.2 - x.1) + sumB r
theorem sum_set : ∀ {b : Bx} {p : Nat} {x : Int × Int}, p < b.length → sumB (b.set p x) = sumB b - ((bxAt b p).2 - (bxAt b p).1) + (x.2 - x.1)
  | y :: b, 0, x, _ => by
    show (x.2 - x.1) + sumB b = (y.2 - y.1) + sumB b - (y.2 - y.1) + (x.2 - x.1)
    omega
  | y :: b, p + 1, x, h => by
    have := sum_set (b := b) (p := p) (x := x) (by simpa using h)
    have e : bxAt (y :: b) (p + 1) = bxAt b p := by unfold bxAt; simp
    rw [e]
    show (y.2 - y.1) + sumB (b.set p x) = (y.2 - y.1) + sumB b - _ + _
    omega
theorem sum_put {b : Bx} {d : Dr} (h : okD b d) : sumB (putD b d) ≤ sumB b - 1 := by
  obtain ⟨h1, h2⟩ := h
  unfold putD
  rw [sum_set h1]
  rcases h2 with ⟨e, g⟩ | ⟨e, g⟩
  · rw [if_pos e]; simp only []; omega
  · rw [if_neg (by omega)]; simp only []; omega
theorem sum_nn : ∀ {b : Bx}, BxOk b → 0 ≤ sumB b
  | [], _ => Int.le_refl _
  | x :: b, h => by
    have h1 := h x (List.mem_cons_self ..)
    have h2 := sum_nn (b := b) fun y hy => h y (List.mem_cons_of_mem _ hy)
    simp only [sumB]; omega
theorem put_ok {b : Bx} {d : Dr} (bo : BxOk b) (h : okD b d) : BxOk (putD b d) := fun x hx => by
  obtain ⟨h1, h2⟩ := h
  unfold putD at hx
  rcases List.mem_or_eq_of_mem_set hx with q | q
  · exact bo x q
  · rw [q]
    rcases h2 with ⟨e, g⟩ | ⟨e, g⟩
    · rw [if_pos e]; simp only []; omega
    · rw [if_neg (by omega)]; simp only []; omega
theorem Chain.ok : ∀ {D : List Dr} {b : Bx}, Chain b D → BxOk b → BxOk (D.foldl putD b) ∧ sumB (D.foldl putD b) ≤ sumB b - D.length
  | [], b, _, bo => ⟨bo, by show sumB b ≤ sumB b - 0; omega⟩
  | d :: D, b, .cons h t, bo => by
    obtain ⟨g1, g2⟩ := t.ok (put_ok bo h)
    have := sum_put h
    rw [List.foldl_cons]
    refine ⟨g1, ?_⟩
    rw [List.length_cons]
    omega
/-- a chain at each of its draws -/
theorem Chain.at_ : ∀ {D : List Dr} {b : Bx} {i : Nat} {d : Dr}, Chain b D → D[i]? = some d → okD ((D.take i).foldl putD b) d
  | _ :: _, b, 0, d, .cons h _, e => by cases e; exact h
  | c :: D, b, i + 1, d, .cons h t, e => by
    rw [List.take_succ_cons, List.foldl_cons]
    exact t.at_ (by simpa using e)
/-! ### the draws of starts -/
def lowJ (w : Wd) (l : Option Int) : Int := match l with
  | some s => if w.1 < s then s else w.1
  | none => w.1
def dr0 (p : Nat) (w : Wd) (l : Option Int) : List Dr := match l with
  | some s => if w.1 < s then [(p, 0, s)] else []
  | none => []
def dr1 (p : Nat) (w : Wd) (l b : Option Int) : List Dr := match b with
  | some s => if lowJ w l ≤ -s - w.2.2.1 ∧ -s - w.2.2.1 < w.2.1 then [(p, 1, -s - w.2.2.1)] else []
  | none => []
def drawJ (p : Nat) (w : Wd) (l b : Option Int) : List Dr := dr0 p w l ++ dr1 p w l b
def drawsN (room : Bool) (z : Int) (js : List Jb) (ws : List Wd) (n : Nat) : List Dr := (List.range n).flatMap fun k => drawJ (jA js k).1 (gW ws k) (mxO (startC room ws z k)) (mxO (startC room (bw ws) z k))
def drawsF (room : Bool) (z : Int) (js : List Jb) (b : Bx) : List Dr := drawsN room z js (wsOf js b) js.length
theorem drawsN_succ (room : Bool) (z : Int) (js : List Jb) (ws : List Wd) (n : Nat) : drawsN room z js ws (n + 1) = drawsN room z js ws n ++ drawJ (jA js n).1 (gW ws n) (mxO (startC room ws z n)) (mxO (startC room (bw ws) z n)) := by
  unfold drawsN
  rw [List.range_succ, List.flatMap_append]
  simp
theorem dr0_mem {p : Nat} {w : Wd} {l : Option Int} {d : Dr} (h : d ∈ dr0 p w l) : ∃ s, l = some s ∧ w.1 < s ∧ d = (p, 0, s) := by
  unfold dr0 at h
  cases l with
  | none => cases h
  | some s =>
    simp only [] at h
    split at h
    · rename_i c
      exact ⟨s, rfl, c, List.mem_singleton.mp h⟩
    · cases h
theorem dr1_mem {p : Nat} {w : Wd} {l b : Option Int} {d : Dr} (h : d ∈ dr1 p w l b) : ∃ s, b = some s ∧ lowJ w l ≤ -s - w.2.2.1 ∧ -s - w.2.2.1 < w.2.1 ∧ d = (p, 1, -s - w.2.2.1) := by
  unfold dr1 at h
  cases b with
  | none => cases h
  | some s =>
    simp only [] at h
    split at h
    · rename_i c
      exact ⟨s, rfl, c.1, c.2, List.mem_singleton.mp h⟩
    · cases h
theorem drawJ_pl {p : Nat} {w : Wd} {l b : Option Int} {d : Dr} (h : d ∈ drawJ p w l b) : d.1 = p := by
  rcases List.mem_append.mp h with h | h
  · obtain ⟨s, _, _, rfl⟩ := dr0_mem h; rfl
  · obtain ⟨s, _, _, _, rfl⟩ := dr1_mem h; rfl
theorem dr1_chain {p : Nat} {w : Wd} {l b : Option Int} {c : Bx} (hp : p < c.length) (e : bxAt c p = (lowJ w l, w.2.1)) : Chain c (dr1 p w l b) := by
  unfold dr1
  cases b with
  | none => exact .nil _
  | some s =>
    simp only []
    split
    · rename_i g
      refine .cons ⟨hp, .inr ⟨rfl, ?_, ?_⟩⟩ (.nil _)
      · show (bxAt c p).1 ≤ _; rw [e]; exact g.1
      · show _ < (bxAt c p).2; rw [e]; exact g.2
    · exact .nil _
theorem drawJ_chain {p : Nat} {w : Wd} {l b : Option Int} {c : Bx} (hp : p < c.length) (e : bxAt c p = (w.1, w.2.1)) (hl : ∀ s, l = some s → s ≤ w.2.1) : Chain c (drawJ p w l b) := by
  unfold drawJ
  cases l with
  | none => exact dr1_chain hp e
  | some s =>
    have hs := hl s rfl
    unfold dr0
    simp only []
    split
    · rename_i g
      have o : okD c (p, 0, s) := ⟨hp, .inl ⟨rfl, by show (bxAt c p).1 < s; rw [e]; exact g, by show s ≤ (bxAt c p).2; rw [e]; exact hs⟩⟩
      refine .cons o (dr1_chain (by rw [put_len]; exact hp) ?_)
      rw [put_at (d := (p, 0, s)) hp]
      simp only [if_true]
      rw [e]
      unfold lowJ
      simp only []
      rw [if_pos g]
    · rename_i g
      refine dr1_chain hp ?_
      unfold lowJ
      simp only []
      rw [if_neg g]; exact e
theorem draws_chain {n : Nat} {z : Int} {js : List Jb} {b : Bx} (ok : JsOk n z js) (z0 : 0 < z) (bo : BxOk b) (bl : b.length = n) (room : Bool) (nl : leafB room (wsOf js b) z = false) :
    ∀ m, m ≤ js.length → Chain b (drawsN room z js (wsOf js b) m) ∧ ∀ k, m ≤ k → k < js.length → bxAt ((drawsN room z js (wsOf js b) m).foldl putD b) (jA js k).1 = bxAt b (jA js k).1
  | 0, _ => ⟨.nil _, fun _ _ _ => rfl⟩
  | m + 1, hm => by
    obtain ⟨h1, h2⟩ := draws_chain ok z0 bo bl room nl m (by omega)
    rw [drawsN_succ]
    have hm' : m < js.length := by omega
    have wm := ws_at (b := b) hm'
    refine ⟨h1.app (drawJ_chain (by rw [fold_len, bl]; exact ok.pl _ (jA_mem hm')) ?_ fun s hs => ?_), fun k hk hk2 => ?_⟩
    · rw [h2 m (Nat.le_refl _) hm', wm]; rfl
    · have is := mxO_is (startC room (wsOf js b) z m)
      rw [hs] at is
      exact start_hi (ws_ok ok bo bl) z0 room nl (by rw [ws_len]; exact hm') is.1
    · rw [List.foldl_append, fold_off, h2 k (by omega) hk2]
      intro d hd
      rw [drawJ_pl hd]
      exact jA_ne ok hm' hk2 (by omega)
def InB (js : List Jb) (b : Bx) (S : Nat → Int) : Prop := ∀ k, k < js.length → (bxAt b (jA js k).1).1 ≤ S k ∧ S k ≤ (bxAt b (jA js k).1).2
theorem inw_iff {js : List Jb} {b : Bx} {S : Nat → Int} : InW (wsOf js b) S ↔ InB js b S := by
  refine ⟨fun h k hk => ?_, fun h k hk => ?_⟩
  · have := h k (by rw [ws_len]; exact hk)
    unfold lo hi at this
    rw [ws_at hk] at this
    exact this
  · rw [ws_len] at hk
    unfold lo hi
    rw [ws_at hk]
    exact h k hk
theorem kp_box {js : List Jb} {b b' : Bx} {z : Int} {S : Nat → Int} (h : Kp (wsOf js b) z S) : Kp (wsOf js b') z S := fun m => by
  refine Int.le_trans (Int.le_of_eq ?_) (h m)
  rw [ld_sg, ld_sg, ws_len, ws_len]
  refine sg_cong fun k hk => ?_
  have e1 : ln (wsOf js b) k = ln (wsOf js b') k := by unfold ln; rw [ws_at hk, ws_at hk]; rfl
  have e2 : nd (wsOf js b) k = nd (wsOf js b') k := by unfold nd; rw [ws_at hk, ws_at hk]; rfl
  rw [e1, e2]
theorem inb_fold {n : Nat} {z : Int} {js : List Jb} (ok : JsOk n z js) {S : Nat → Int} : ∀ {D : List Dr} {b : Bx}, (∀ d ∈ D, d.1 < b.length ∧ ∃ k, k < js.length ∧ d.1 = (jA js k).1 ∧ (d.2.1 = 0 → d.2.2 ≤ S k) ∧ (d.2.1 ≠ 0 → S k ≤ d.2.2)) → InB js b S → InB js (D.foldl putD b) S
  | [], b, _, h => h
  | d :: D, b, g, h => by
    rw [List.foldl_cons]
    refine inb_fold ok (fun e he => ?_) fun k hk => ?_
    · rw [put_len]; exact g e (List.mem_cons_of_mem _ he)
    · obtain ⟨g1, i, hi, e, h0, h1⟩ := g d (List.mem_cons_self ..)
      have hk' := h k hk
      rw [put_at g1]
      by_cases q : (jA js k).1 = d.1
      · have ki : k = i := by
          by_cases r : k = i
          · exact r
          · exact absurd (q.trans e) (jA_ne ok hk hi r)
        rw [if_pos q]
        subst ki
        rw [q] at hk'
        by_cases s : d.2.1 = 0
        · rw [if_pos s]; exact ⟨h0 s, hk'.2⟩
        · rw [if_neg s]; exact ⟨hk'.1, h1 s⟩
      · rw [if_neg q]; exact hk'
theorem draws_true {n : Nat} {z : Int} {js : List Jb} {b : Bx} (ok : JsOk n z js) (z0 : 0 < z) (bo : BxOk b) (bl : b.length = n) (room : Bool) {S : Nat → Int} (kp : Kp (wsOf js b) z S) (inb : InB js b S) {d : Dr} (h : d ∈ drawsF room z js b) : d.1 < b.length ∧ ∃ k, k < js.length ∧ d.1 = (jA js k).1 ∧ (d.2.1 = 0 → d.2.2 ≤ S k) ∧ (d.2.1 ≠ 0 → S k ≤ d.2.2) := by
  unfold drawsF drawsN at h
  obtain ⟨k, hk, h⟩ := List.mem_flatMap.mp h
  have hk := List.mem_range.mp hk
  have hkw : k < (wsOf js b).length := by rw [ws_len]; exact hk
  have wo := ws_ok ok bo bl
  have inw := inw_iff.mpr inb
  have pl := drawJ_pl h
  refine ⟨by rw [pl, bl]; exact ok.pl _ (jA_mem hk), k, hk, pl, fun e => ?_, fun e => ?_⟩
  · rcases List.mem_append.mp h with h | h
    · obtain ⟨s, hs, _, rfl⟩ := dr0_mem h
      have is := mxO_is (startC room (wsOf js b) z k)
      rw [hs] at is
      exact start_st wo z0 kp inw room hkw is.1
    · obtain ⟨s, _, _, _, rfl⟩ := dr1_mem h
      exact absurd e (by show ¬ (1 : Int) = 0; decide)
  · rcases List.mem_append.mp h with h | h
    · obtain ⟨s, _, _, rfl⟩ := dr0_mem h
      exact absurd rfl e
    · obtain ⟨s, hs, _, _, rfl⟩ := dr1_mem h
      have is := mxO_is (startC room (bw (wsOf js b)) z k)
      rw [hs] at is
      have := start_st (bw_ok wo) z0 (bw_kp kp) (bw_in inw) room (by rw [bw_len]; exact hkw) is.1
      have this : s ≤ -S k - ln (wsOf js b) k := this
      show S k ≤ -s - (gW (wsOf js b) k).2.2.1
      unfold ln at this
      omega
/-! ### until no draw is left -/
def quietF (room : Bool) (z : Int) (js : List Jb) : Nat → Nat → Bx → Option Bx × Int
  | 0, _, _ => (none, -1)
  | f + 1, t, b => if leafB room (wsOf js b) z = true then (none, (t : Int)) else match drawsF room z js b with
    | [] => (some b, (t : Int))
    | d :: D => quietF room z js f (t + 1) ((d :: D).foldl putD b)
theorem quiet_ok {n : Nat} {z : Int} {js : List Jb} (ok : JsOk n z js) (z0 : 0 < z) (room : Bool) : ∀ (f t : Nat) (b : Bx), BxOk b → b.length = n → sumB b < f →
    0 ≤ (quietF room z js f t b).2 ∧ (∀ c, (quietF room z js f t b).1 = some c → c.length = n) ∧ ∀ S, Kp (wsOf js b) z S → InB js b S → ∃ c, (quietF room z js f t b).1 = some c ∧ InB js c S
  | 0, t, b, bo, bl, h => by have := sum_nn bo; omega
  | f + 1, t, b, bo, bl, h => by
    unfold quietF
    cases nl : leafB room (wsOf js b) z with
    | true =>
      rw [if_pos rfl]
      refine ⟨Int.natCast_nonneg _, fun c e => (by cases e), fun S kp inb => ?_⟩
      have := leaf_no (ws_ok ok bo bl) kp (inw_iff.mpr inb) room
      rw [nl] at this; cases this
    | false =>
      rw [if_neg (by decide)]
      have ch := (draws_chain ok z0 bo bl room nl js.length (Nat.le_refl _)).1
      have tr := fun S kp inb => inb_fold (S := S) ok (fun d hd => draws_true ok z0 bo bl room (S := S) kp inb hd) inb
      have co := ch.ok bo
      rw [show drawsN room z js (wsOf js b) js.length = drawsF room z js b from rfl] at *
      cases hD : drawsF room z js b with
      | nil => exact ⟨Int.natCast_nonneg _, fun c e => by cases e; exact bl, fun S kp inb => ⟨b, rfl, inb⟩⟩
      | cons d D =>
        rw [hD] at co tr
        rw [List.length_cons] at co
        obtain ⟨q1, q2, q3⟩ := quiet_ok ok z0 room f (t + 1) ((d :: D).foldl putD b) co.1 (by rw [fold_len]; exact bl) (by omega)
        exact ⟨q1, q2, fun S kp inb => q3 S (kp_box kp) (tr S kp inb)⟩
end M60

/-! Defs that show data by repr: what is under way in C must be known where they are called (A.guards = some []), which the layer's promises leave open. A promise under that premise, its call, repr of data, the law's end. -/
namespace Gd
open PySem PySem.Spec PyProof.Rows L2
theorem deeper_guards {A : Around} {env : Env} (h : A.guards = some []) : (A.deeper env).guards = some [] := h
/-- a def that keeps sp where nothing is under way -/
structure FnG (P : Program) (w : World) (K : PySem.W.Frag) (mg : Str → Option Value) (base : Heap) (CX : CXT) (k : Nat) (f : Addr) (fd : FuncData) (ps : List Str) (sp : Sp) : Prop where
  len : ∀ vs H Q E, sp vs H Q E → vs.length = ps.length
  run : ∀ (A : Around) (outer : List Env) (s : Shared) (H : Hp) (args : Args) (us : List Value) (vs : List V) (Q : VK) (E : XK), A.guards = some [] → Room k A → Env0 P w K mg base A outer s H → BindsTo s fd args (ps.zip us) → Vals vs us → sp vs H Q E →
    codeAny (model P w) A (.call (.ref f) args) (CR CX outer P w H s Q E) s
section
variable {P : Program} {w : World} {K : PySem.W.Frag} {mg : Str → Option Value} {base : Heap}
theorem FnG.mono {CX : CXT} {j k : Nat} {f : Addr} {fd : FuncData} {ps : List Str} {sp : Sp} (F : FnG P w K mg base CX j f fd ps sp) (h : j ≤ k) : FnG P w K mg base CX k f fd ps sp :=
  ⟨F.len, fun A outer s H args us vs Q E g hr => F.run A outer s H args us vs Q E g (hr.mono h)⟩
/-- a def by its body, the guards known within -/
theorem fun_okG {x qual : Str} {st : Stmt} {f : Addr} {fd : FuncData} {N ps : List Str} {k : Nat} {sp : Sp} (F : Fun K x qual st f fd) (S : FnScope N ps (defScope st)) (len : ∀ vs H Q E, sp vs H Q E → vs.length = ps.length)
    (hbody : ∀ (cdv : Value) (A : Around) (outer : List Env) (s : Shared) (H : Hp) (vs : List V) (Q : VK) (E : XK), (A.deeper (envOfC qual (defScope st) s.heap.objs.size f cdv)).guards = some [] → Room k (A.deeper (envOfC qual (defScope st) s.heap.objs.size f cdv)) → sp vs H Q E →
      ∃ t, PSs (cxOf CX0 P w K mg base N qual (defScope st) f cdv A outer s H E).nox (defBody st) t ∧ t { nx := fun _ H' => Q .non H', rt := Q } (L2.start N vs) H) : FnG P w K mg base CX0 (k + 1) f fd ps sp := by
  obtain ⟨oc, od, kV, doc, pm, an, cdv, ct, osl, rfl, lk, hcd⟩ := F.ex
  refine ⟨len, fun A outer s H args us vs Q E g hr e0 hb r hsp => ?_⟩
  refine LamX.run_ofS lk hcd S hr e0 hb r (len _ _ _ _ hsp) fun hr' => ?_
  obtain ⟨t, h, q⟩ := hbody cdv A outer s H vs Q E (deeper_guards g) hr' hsp
  exact ⟨t, h.nox, q⟩
/-- such a def by its name -/
structure CalG (P : Program) (w : World) (K : PySem.W.Frag) (mg : Str → Option Value) (base : Heap) (k : Nat) (x : Str) (sp : Sp) : Prop where
  ex : ∃ (f : Addr) (fd : FuncData) (ps : List Str), FnG P w K mg base CX0 k f fd ps sp ∧ mg x = some (.ref f) ∧ PySem.W.keepIn K (.ref f) = true ∧ Binds K fd ps []
end
section
variable {X : Cx} {k j : Nat} {x : Str} {sp : Sp} {e : Expr} {es : List Expr} {t : TA} {p pos : Pos}
theorem pe_cG (hgd : X.A.guards = some []) (c : CalG X.prog X.w X.K X.mg X.base k x sp) (hr : Room j X.A) (hk : k ≤ j) (hg : Gl X x) (ha : PA X (e :: es) t)
    (hdb : (x == ("__debug__" : Str)) = false := by decide) (he : starEach (e :: es) X.env = (false, eval e X.env) :: starEach es X.env := by rfl) (hpl : (backTo pos (starEach es X.env)).any (·.1) = false := by rfl) :
    PE X (.Call (.Name x p) (e :: es) [] pos) (tCall sp [] L2.E0 t) := by
  obtain ⟨f, fd, ps, F, hm, kp, b⟩ := c.ex
  refine ⟨fun pins s σ H Q I h => ?_⟩
  refine wpAny_Call_Name_kw (ld_glob I hg hm ?_ hdb)
  refine PySem.W.callWith_K (h₀ := X.base) I.ok.mod.kin kp (thn (ha.run pos pins s σ H _ I h) fun us s1 hz => ?_) he hpl
  obtain ⟨vs, H1, I1, r, q⟩ := hz
  have q : sp (vs ++ []) H1 Q L2.E0 := q
  rw [List.append_nil] at q
  have hl : us.length = ps.length := r.length.symm.trans (F.len _ _ _ _ q)
  refine ⟨I1.kIn, wpAny_call (codeAny_mono ((F.mono hk).run X.A X.stack s1 H1 ⟨us, []⟩ us vs Q L2.E0 hgd hr I1.env0 ?_ r q) fun r3 s3 hq => ?_)⟩
  · have := b s1 us I1.kIn (by rw [List.append_nil]; exact hl)
    rw [List.append_nil] at this
    exact this
  · cases r3 with
    | error e => exact (show False from hq).elim
    | ok fl =>
      cases fl with
      | ret u => exact I1.after hq
      | next => exact hq.elim
      | brk => exact hq.elim
      | cont => exact hq.elim
/-- repr of a tuple, a list of data -/
def rShow (K : PySem.W.Frag) : List V → Hp → VK → Prop := fun xs H Q => ∃ (a : Addr) (d : PyData), xs = [.ref a] ∧ Dp K H (.ref a) d ∧ d.showable = true ∧ d.hasDict = false ∧ d.depth ≤ 60 ∧ d.shown.length ≤ sizeLine ∧ Q (.str d.shown) H
theorem call_show (hgd : X.A.guards = some []) (hu : X.A.units + 64 < cLine) : CallR X (.builtin "repr") (rShow X.K) := by
  intro pins s σ H xs us Q I r h
  obtain ⟨a, d, rfl, hd, hs, hn, hp, hz, q⟩ := h
  obtain ⟨u, rfl, r1⟩ := vals1 r
  cases (show u = Value.ref a from r1)
  obtain ⟨as, rd⟩ := Dp.reads I d (.ref a) (.ref a) hd rfl
  refine repr_of_reads' rd hs (fun e => by rw [hn] at e; cases e) hgd (by omega) (fun _ _ e => e) (fun h' u tk hk => ?_) hz
  exact ⟨.str d.shown, H, I.kept (t' := tk) hk, ⟨u, rfl⟩, q⟩
end
end Gd

/-! enumerate of a tuple, a loop over a list or a tuple, math.lcm. -/
namespace Gd
open PySem PySem.Spec PyProof.Rows L2
/-- the new enumerate object over what v begins as -/
abbrev enO (h : Heap) : Obj := { cls := .type "enumerate", data := .fields #[.none, .bool false, .ref h.objs.size, rawInt 0, .none, .none] }
theorem enB_new {v : Value} {o : Obj} {H : Heap → Prop} (B : Begins v o H) :
    Meets (Builtin.«enumerate.__new__» ⟨[.type "enumerate", v], []⟩) (fun _ R s => H s.heap ∧ R (.ok (.ret (.ref (s.heap.push o).objs.size))) { s with heap := (s.heap.push o).push (enO s.heap) }) :=
  .of_wp fun P W A R s z => by
    obtain ⟨hp, g, d, tk, os⟩ := s
    obtain ⟨hB, q⟩ := z
    have sb := sub_enumerate
    have begin : ∀ {A2 : Around} {E : Value → Shared → Prop} {Q : Value → Shared → Prop}, Q (.ref hp.objs.size) ⟨hp.push o, g, d, tk, os⟩ → wpAny (model P W) A2 (pyIter v) Q E ⟨hp, g, d, tk, os⟩ :=
      fun y => B.iter P W _ _ ⟨hp, g, d, tk, os⟩ _ hB y
    wp_walk using begin
    refine wpAny_stack_any fun stk => wpAny_pure ?_
    split
    all_goals first
      | (wp_walk using begin; exact ⟨_, rfl, q⟩)
      | (rename_i c _ _ _ _ _
         cases (c == Value.type "enumerate") <;> (wp_walk using begin; exact ⟨_, rfl, q⟩))
theorem call_enB {P : Program} {w : World} {A : Around} {E : Value → Shared → Prop} {s : Shared} {v : Value} {o : Obj} {H : Heap → Prop} {Q : Value → Shared → Prop} (B : Begins v o H) (hB : H s.heap)
    (q : ∀ h', IsEnum h' (s.heap.objs.size + 1) s.heap.objs.size 0 .none → h'.get? s.heap.objs.size = some o → (∀ b x, s.heap.get? b = some x → h'.get? b = some x) → Q (.ref (s.heap.objs.size + 1)) { s with heap := h' }) :
    wpAny (model P w) A (call (.type "enumerate") [v]) Q E s := by
  refine callType_new F.called_enumerate (by decide) (F.typeCall_enumerate_1 _) (F.newCall_enumerate_1 _) (fun obj => F.args_object_init_2 obj _) F.entry_enumerate_new (enB_new B) ⟨hB, ?_⟩
  have sz : (s.heap.push o).objs.size = s.heap.objs.size + 1 := Heap.size_push ..
  have isE : IsEnum ((s.heap.push o).push (enO s.heap)) (s.heap.push o).objs.size s.heap.objs.size 0 .none := Heap.get?_push_size _ rfl
  have q2 := q ((s.heap.push o).push (enO s.heap)) (by rw [← sz]; exact isE) (Heap.get?_push_of_some _ (Heap.get?_push_size _ B.free)) fun b x e => Heap.get?_push_of_some _ (Heap.get?_push_of_some _ e)
  rw [← sz] at q2
  exact ⟨⟨_, isE, rfl⟩, q2⟩
/-- the tuple at a as it stands at each turn, each item in a new pair -/
def ItE (K : PySem.W.Frag) (a : Addr) : It :=
  ⟨fun i H => ∃ (xs : List V) (x : V), SqT K H a xs ∧ xs[i]? = some x, fun i H v H' => ∃ T x, v = .ref T ∧ H T = none ∧ H' = upd H T (.tup [.int (i : Nat), x]) ∧ ∀ xs, SqT K H a xs → xs[i]? = some x, fun i H => ∃ xs : List V, SqT K H a xs ∧ xs.length = i⟩
theorem turn_enT {P : Program} {w : World} {K : PySem.W.Frag} {elts : List Expr} {kk : Nat} {tpos : Pos} (a e it : Addr) :
    Turn P w K (.Tuple elts kk tpos) (ItE K a) [e, it] e (fun i h => (∃ old, IsEnum h e it ((i : Nat) : Int) old) ∧ h.IsTupleIter it a i ∧ e ≠ it) where
  mem := List.mem_cons_self ..
  obj := fun i h st b hb => by
    obtain ⟨⟨old, hE⟩, ⟨o, ho, hc, hd⟩, _⟩ := st
    rcases List.mem_cons.mp hb with rfl | hb
    · exact ⟨_, hE, fun v q => nomatch q⟩
    · obtain rfl := List.mem_singleton.mp hb
      exact ⟨o, ho, fun v q => by rw [hd] at q; cases q⟩
  keep := fun i h h' st k => by
    obtain ⟨⟨old, hE⟩, hI, ne⟩ := st
    exact ⟨⟨old, k _ (List.mem_cons_self ..) _ hE⟩, hI.at fun o q => k _ (List.mem_cons_of_mem _ (List.mem_cons_self ..)) o q, ne⟩
  item := by
    intro X hP hw hK hc i pins s σ H E I fps st gg
    subst hP hw hK
    obtain ⟨⟨old, hE⟩, hI, ne⟩ := st
    obtain ⟨xs, x, hq, hx⟩ := gg
    obtain ⟨its, rv, pT, hz⟩ := I.tuple hq
    have pT : s.heap.IsTuple a its.toArray := pT
    obtain ⟨u, hu, ru⟩ := rv.get hx
    have ln := rv.length
    have li : i < its.length := by
      rw [← ln]
      exact (List.getElem?_eq_some_iff.mp hx).1
    obtain ⟨oa, ea, ca, na, da⟩ := id pT
    obtain ⟨oi, ei, ci, di⟩ := id hI
    have ae : e ≠ a := fun z => by
      have y : s.heap.get? a = some _ := z ▸ hE
      rw [ea] at y
      cases y
      cases da
    have ai : a ≠ it := fun z => by
      rw [z, ei] at ea
      cases ea
      rw [di] at da
      cases da
    have D := Draws.tuple (prog := X.prog) (w := X.w) (A := X.A.in1) (I.ok.hd hc) it a ai its.toArray
    have le : e < s.heap.objs.size := Heap.lt_size hE
    have lt : it < s.heap.objs.size := Heap.lt_size ei
    refine wpAny_pyNext_enum_itemD D hE ⟨hI, pT⟩ (by simpa using li) ne (by simp only [List.mem_cons, List.not_mem_nil, or_false, not_or]; exact ⟨ne, ae⟩) fun y h1 tk hy out st1 new _ kp => ?_
    obtain rfl : u = y := Option.some.inj ((by simpa using hu : its.toArray[i]? = some u).symm.trans hy)
    refine ⟨_, rfl, wpAny_letOwnedTupleGo_enum (s := { s with heap := h1, toks := tk + 1 }) out fun h2 in2 sb => ?_⟩
    have new2 : h2.get? s.heap.objs.size = some { cls := .type "tuple", data := .seq #[.int i tk, u] } := (sb.2 _ (Nat.ne_of_gt le)).trans new
    have fresh := I.hok.fresh (Nat.le_refl s.heap.objs.size)
    have pair : ObjOk X.prog X.w (upd H s.heap.objs.size (.tup [.int (i : Nat), x])) h2 s.heap.objs.size (.tup [.int (i : Nat), x]) :=
      ⟨show 2 ≤ sizeLine by decide, [.int i tk, u], .cons ⟨_, rfl⟩ (.cons ru .nil), ⟨_, new2, rfl, _, rfl⟩⟩
    have I2 : Inv X pins σ (upd H s.heap.objs.size (.tup [.int (i : Nat), x])) { s with heap := h2, toks := tk + 1 } :=
      I.turnedNew (ch := [e, it]) (fun b ob nb q => by
        have n1 : b ≠ e := fun z => nb (z ▸ List.mem_cons_self ..)
        have n2 : b ≠ it := fun z => nb (z ▸ List.mem_cons_of_mem _ (List.mem_cons_self ..))
        exact (sb.2 b n1).trans (kp b ob n1 n2 q)) fps (Nat.le_refl _) pair
    refine ⟨.ref s.heap.objs.size, _, I2, rfl, ⟨_, x, rfl, fresh, rfl, fun ys hy => by rw [I.tuple_inj hy hq]; exact hx⟩, ⟨⟨u, by rw [Int.natCast_succ]; exact in2⟩, st1.1.at fun o q => (sb.2 it (Ne.symm ne)).trans q, ne⟩, fun b hb => ?_⟩
    have lb : b < s.heap.objs.size := by
      rcases List.mem_cons.mp hb with rfl | h
      · exact le
      · rw [List.mem_singleton.mp h]; exact lt
    rw [upd_ne (Nat.ne_of_lt lb)]
    exact (fps b hb).1
  done := by
    intro X hP hw hK hc i pins s σ H E I fps st gg
    subst hP hw hK
    obtain ⟨⟨old, hE⟩, hI, ne⟩ := st
    obtain ⟨xs, hq, hx⟩ := gg
    obtain ⟨its, rv, pT, hz⟩ := I.tuple hq
    have pT : s.heap.IsTuple a its.toArray := pT
    obtain ⟨oa, ea, ca, na, da⟩ := id pT
    obtain ⟨oi, ei, ci, di⟩ := id hI
    have ai : a ≠ it := fun z => by
      rw [z, ei] at ea
      cases ea
      rw [di] at da
      cases da
    have D := Draws.tuple (prog := X.prog) (w := X.w) (A := X.A.in1) (I.ok.hd hc) it a ai its.toArray
    have ln := rv.length
    have en : i = its.toArray.size := by rw [List.size_toArray, ← ln, hx]
    obtain ⟨f0, f1, f2, f3, f4, f5⟩ := fps it (List.mem_cons_of_mem _ (List.mem_cons_self ..))
    exact wpAny_pyNext_enum_endD D hE ⟨en ▸ hI, pT⟩ fun h1 eb => ⟨rfl, I.turned (t' := s.toks) (fun b o hb q => eb b o hb q) f0 f1 f3 f4 f5⟩
  self := fun A i s Q E st h => let ⟨⟨_, hE⟩, _⟩ := st; wpAny_pyIter_enum hE h
def iEnT (K : PySem.W.Frag) (ta : TA) : TI := fun σ H R => ta σ H fun vs H1 => ∃ a xs, vs = [.ref a] ∧ SqT K H1 a xs ∧ R (ItE K a) H1
theorem pi_enT {X : Cx} {e : Expr} {ta : TA} {p pos tpos : Pos} {elts : List Expr} {kk : Nat} (hg : Gl X "enumerate") (hm : X.mg "enumerate" = none) (ha : PA X [e] ta) (hs : starEach [e] X.env = [(false, eval e X.env)] := by rfl) :
    PI X (.Tuple elts kk tpos) (.Call (.Name "enumerate" p) [e] [] pos) (iEnT X.K ta) := by
  refine ⟨fun pins s σ H R I h => ?_⟩
  refine Call_ (ld_blt I hg hm boot_enumerate (PyProof.Rows.callWith_type1 (thn (ha.run pos pins s σ H _ I h) fun us s1 ⟨vs, H1, I1, r1, a, xs, ev, hq, q⟩ => ?_) hs rfl))
  subst ev
  obtain ⟨u, rfl, r⟩ := vals1 r1
  cases r
  obtain ⟨its, rv, pT, hz⟩ := I1.tuple hq
  have pT : s1.heap.IsTuple a its.toArray := pT
  refine call_enB (begins_tuple a its.toArray) pT fun h1 isE itO kp => wpAny_pyIter_enum isE ?_
  refine ⟨s1.heap.objs.size + 1, [s1.heap.objs.size + 1, s1.heap.objs.size], _, _, H1, rfl, I1.kept (t' := s1.toks) kp, turn_enT a _ _, ⟨⟨.none, isE⟩, ⟨_, itO, rfl, rfl⟩, Nat.succ_ne_self _⟩, fun b hb => ?_, q⟩
  have le : s1.heap.objs.size ≤ b := by
    rcases List.mem_cons.mp hb with rfl | h
    · exact Nat.le_succ _
    · rw [List.mem_singleton.mp h]; exact Nat.le_refl _
  exact I1.fpOk le (I1.hok.fresh le)
/-- such a loop, by one word a turn -/
theorem for_enT {K : PySem.W.Frag} {a : Addr} {xs : List V} {g : TG} {tb : TS} {D : Ends} {σ : L2.St} {H : Hp} (Pv : Nat → L2.St → Hp → Prop) (h0 : Pv 0 σ H) (hq : ∀ i σ H, Pv i σ H → SqT K H a xs)
    (hs : ∀ (i : Nat) (x : V) (T : Addr) (σ : L2.St) (H : Hp), xs[i]? = some x → Pv i σ H → H T = none → g (.ref T) σ (upd H T (.tup [.int (i : Nat), x])) fun σ2 H2 => tb { D with nx := Pv (i + 1), ct := Pv (i + 1), bk := D.nx } σ2 H2) (hd : ∀ σ H, Pv xs.length σ H → D.nx σ H) :
    ∃ W : Nat → Nat → L2.St → Hp → Prop, (∃ m, W 0 m σ H) ∧ ∀ i m σ H, W i m σ H →
      ((ItE K a).stop i H ∧ D.nx σ H) ∨ ((ItE K a).go i H ∧ ∃ N : L2.St → Hp → Prop, (∀ σ' H', N σ' H' → ∃ m', m' < m ∧ W (i + 1) m' σ' H') ∧ ∀ v H', (ItE K a).yld i H v H' → g v σ H' fun σ2 H2 => tb { D with nx := N, ct := N, bk := D.nx } σ2 H2) := by
  refine ⟨fun i m σ H => m = xs.length - i ∧ i ≤ xs.length ∧ Pv i σ H, ⟨xs.length, rfl, Nat.zero_le _, h0⟩, fun i m σ H ⟨em, le, p⟩ => ?_⟩
  subst em
  have q := hq i σ H p
  by_cases lt : i < xs.length
  · refine .inr ⟨⟨xs, _, q, List.getElem?_eq_getElem lt⟩, Pv (i + 1), fun σ' H' p' => ⟨_, by omega, rfl, lt, p'⟩, fun v H' y => ?_⟩
    obtain ⟨T, x, rfl, nT, rfl, f⟩ := y
    exact hs i x T σ H (f xs q) p nT
  · obtain rfl : i = xs.length := by omega
    exact .inl ⟨⟨xs, q, rfl⟩, hd σ H p⟩
/-- a loop over a list or a tuple -/
def iSeq (K : PySem.W.Frag) (tl : TE) : TI := fun σ H R => tl σ H fun x H1 => ∃ a, x = .ref a ∧ (((∃ xs, SqL K H1 a xs) ∧ R (Itl K a) H1) ∨ ((∃ xs, SqT K H1 a xs) ∧ R (Itt K a) H1))
theorem pi_seq {X : Cx} {tg l : Expr} {tl : TE} (hl : PE X l tl) : PI X tg l (iSeq X.K tl) := by
  refine ⟨fun pins s σ H R I h => ?_⟩
  refine thn (hl.run pins s σ H _ I h) fun v s1 ⟨x, H1, I1, r1, a, e, q1⟩ => ?_
  subst e
  cases r1
  have fp : ∀ b ∈ [s1.heap.objs.size], FpOk X pins H1 b := fun b hb => by
    rw [List.mem_singleton.mp hb]
    exact I1.fpOk (Nat.le_refl _) (I1.hok.fresh (Nat.le_refl _))
  rcases q1 with ⟨⟨xs, hq⟩, q⟩ | ⟨⟨xs, hq⟩, q⟩
  · obtain ⟨its, rv, pl, hz⟩ := I1.list hq
    exact wpAny_pyIter_list pl.isList ⟨_, _, _, _, H1, rfl, I1.kept (t' := s1.toks) fun b o y => Heap.get?_push_of_some _ y, turn_list a _, ⟨_, Heap.get?_push_size _ rfl, rfl, rfl⟩, fp, q⟩
  · obtain ⟨its, rv, pl, hz⟩ := I1.tuple hq
    exact wpAny_pyIter_tuple (show s1.heap.IsTuple a its.toArray from pl) ⟨_, _, _, _, H1, rfl, I1.kept (t' := s1.toks) fun b o y => Heap.get?_push_of_some _ y, turn_tuple a _, ⟨_, Heap.get?_push_size _ rfl, rfl, rfl⟩, fp, q⟩
def rLcm : List V → Hp → VK → Prop := fun vs H Q => ∃ a b : Int, vs = [.int a, .int b] ∧ a.natAbs < 2 ^ 64 ∧ b.natAbs < 2 ^ 64 ∧ Q (.int ((Nat.lcm a.natAbs b.natAbs : Nat) : Int)) H
theorem cr_lcm {X : Cx} : CallR X (.builtin "math.lcm") rLcm := by
  intro pins s σ H vs us Q I r h
  obtain ⟨a, b, rfl, ha, hb, q⟩ := h
  obtain ⟨t, u, rfl⟩ := Vals.int2 r
  have e1 : Nat.lcm 1 a.natAbs = a.natAbs := Nat.lcm_one_left _
  refine PySem.W.mg_lcm ha hb ?_ ?_
  · rw [e1]
    have : Nat.lcm a.natAbs b.natAbs < 2 ^ 128 := by
      have h1 : Nat.lcm a.natAbs b.natAbs ≤ a.natAbs * b.natAbs := Nat.div_le_self _ _
      have h2 : a.natAbs * b.natAbs < 2 ^ 64 * 2 ^ 64 := Nat.mul_lt_mul'' ha hb
      exact Nat.lt_of_le_of_lt h1 h2
    exact Nat.lt_of_lt_of_le (PySem.Flt.log2_lt_of (by decide) (show ((Nat.lcm a.natAbs b.natAbs : Nat) : Int).natAbs < 2 ^ 128 from this)) (by decide)
  · rw [e1]
    exact ⟨.int _, H, I.tok _, ⟨_, rfl⟩, q⟩
end Gd

/-! a comprehension over zip of two tuples; a statement that is not reached; in of a dict. -/
namespace Gd
open PySem PySem.Spec PyProof.Rows L2
theorem lc_zipM {K : PySem.W.Frag} {a b : Addr} {xs ys : List V} {g : TG} {tt : TT} {te : TE} {vs : List Nat} {σ : L2.St} {H1 : Hp} {D : Addr} {Qd : Hp → Prop} (n : Nat) (hn : n = min xs.length ys.length) (Pv : Nat → Hp → Prop) (h0 : Pv 0 (upd H1 D (.lst []))) (hq : ∀ i H, Pv i H → SqT K H a xs ∧ SqT K H b ys)
    (hs : ∀ (i : Nat) (x y : V) (T : Addr) (H : Hp), xs[i]? = some x → ys[i]? = some y → Pv i H → H T = none → g (.ref T) (wipe σ vs) (upd H T (.tup [x, y])) fun σ2 H2 => wipe σ2 vs = wipe σ vs ∧ tt σ2 H2 fun b H3 =>
      if b = true then te σ2 H3 fun y H4 => ∃ acc, H4 D = some (.lst acc) ∧ acc.length < sizeLine ∧ Pv (i + 1) (upd H4 D (.lst (acc ++ [y]))) else Pv (i + 1) H3) (hd : ∀ H, Pv n H → Qd H) :
    ∃ W : Nat → Nat → Hp → Prop, (∃ m, W 0 m (upd H1 D (.lst []))) ∧ ∀ i m H, W i m H →
      ((RZ.ItzT K a b).stop i H ∧ Qd H) ∨ ((RZ.ItzT K a b).go i H ∧ ∃ Nx : Hp → Prop, (∀ H', Nx H' → ∃ m', m' < m ∧ W (i + 1) m' H') ∧ ∀ x H', (RZ.ItzT K a b).yld i H x H' → g x (wipe σ vs) H' fun σ2 H2 => wipe σ2 vs = wipe σ vs ∧ tt σ2 H2 fun b H3 =>
        if b = true then te σ2 H3 fun y H4 => ∃ acc, H4 D = some (.lst acc) ∧ acc.length < sizeLine ∧ Nx (upd H4 D (.lst (acc ++ [y]))) else Nx H3) := by
  refine ⟨fun i m H => m = n - i ∧ i ≤ n ∧ Pv i H, ⟨n, rfl, Nat.zero_le _, h0⟩, ?_⟩
  rintro i m H ⟨rfl, hi, p⟩
  obtain ⟨qx, qy⟩ := hq i H p
  by_cases hlt : i < n
  · have hlt1 : i < xs.length := by omega
    have hlt2 : i < ys.length := by omega
    have hx : xs[i]? = some xs[i] := List.getElem?_eq_getElem hlt1
    have hy : ys[i]? = some ys[i] := List.getElem?_eq_getElem hlt2
    refine .inr ⟨⟨xs, ys, _, _, qx, qy, hx, hy⟩, Pv (i + 1), fun H' p' => ⟨n - (i + 1), by omega, rfl, hlt, p'⟩, fun v H' y => ?_⟩
    obtain ⟨T, x', y', rfl, hT, rfl, f1, f2⟩ := y
    exact hs i x' y' T H (f1 xs qx) (f2 ys qy) p hT
  · have e : i = n := by omega
    subst e
    exact .inl ⟨⟨xs, ys, qx, qy, by omega⟩, hd H p⟩
section
variable {X : Cx}
/-- a statement that is never reached -/
theorem ps_dead {st : Stmt} : PS X st (fun _ _ _ => False) := ⟨fun _ _ _ _ _ _ h => h.elim⟩
theorem pe_dead {e : Expr} : PE X e (fun _ _ _ => False) := ⟨fun _ _ _ _ _ _ h => h.elim⟩
theorem pss_dead {b : List Stmt} : PSs X b (fun _ _ _ => False) := ⟨fun _ _ _ _ _ _ h => h.elim⟩
def rInDc : R2 := fun x y H Q => ∃ a o, y = .ref a ∧ DGet H a x o ∧ Q (.bl o.isSome) H
def rNotInDc : R2 := fun x y H Q => ∃ a o, y = .ref a ∧ DGet H a x o ∧ Q (.bl (!o.isSome)) H
theorem op_inDc (hu : X.A.units + 1 < cLine) : OpR X (compareOp .In) rInDc := by
  intro pins s σ H x y v u Q I rx ry h
  obtain ⟨a, o, rfl, g, q⟩ := h
  cases ry
  exact d_in hu I g rx fun s1 I1 => ⟨.bl _, H, I1, rfl, q⟩
theorem op_notInDc (hu : X.A.units + 1 < cLine) : OpR X (compareOp .NotIn) rNotInDc := by
  intro pins s σ H x y v u Q I rx ry h
  obtain ⟨a, o, rfl, g, q⟩ := h
  cases ry
  exact d_notIn hu I g rx fun s1 I1 => ⟨.bl _, H, I1, rfl, q⟩
end
theorem _root_.L2.Room.units1 {k : Nat} {A : Around} (hr : Room k A) : A.units + 1 < cLine := by have := hr.un; omega
end Gd
namespace Gd
open PySem PySem.Spec PyProof.Rows L2
/-- a walk over a tuple, whatever a turn does -/
theorem walk_tup {K : PySem.W.Frag} {a : Addr} {xs : List V} {B : V → Hp → (Hp → Prop) → Prop} {H0 : Hp} {Qd : Hp → Prop} (Pv : Nat → Hp → Prop) (h0 : Pv 0 H0) (hl : ∀ i H, i ≤ xs.length → Pv i H → SqT K H a xs)
    (hs : ∀ i x H, xs[i]? = some x → Pv i H → B x H (Pv (i + 1))) (hd : ∀ H, Pv xs.length H → Qd H) :
    ∃ W : Nat → Nat → Hp → Prop, (∃ m, W 0 m H0) ∧ ∀ i m H, W i m H →
      ((Itt K a).stop i H ∧ Qd H) ∨ ((Itt K a).go i H ∧ ∃ Nx : Hp → Prop, (∀ H', Nx H' → ∃ m', m' < m ∧ W (i + 1) m' H') ∧ ∀ x H', (Itt K a).yld i H x H' → B x H' Nx) := by
  refine ⟨fun i m H => m = xs.length - i ∧ i ≤ xs.length ∧ Pv i H, ⟨xs.length, by simp, Nat.zero_le _, h0⟩, ?_⟩
  rintro i m H ⟨rfl, hi, p⟩
  have q := hl i H hi p
  by_cases hlt : i < xs.length
  · refine .inr ⟨⟨xs, xs[i], q, by simp [hlt]⟩, Pv (i + 1), fun H' p' => ⟨xs.length - (i + 1), by omega, rfl, hlt, p'⟩, fun x H' y => ?_⟩
    obtain ⟨e, y⟩ := y
    subst e
    exact hs i x _ (y xs q) p
  · have e : i = xs.length := by omega
    subst e
    exact .inl ⟨⟨xs, q, Nat.le_refl _⟩, hd H p⟩
end Gd
namespace Gd
open PySem PySem.Spec PyProof.Rows L2
/-- a walk over a text's signs -/
theorem walk_str {x : Str} {B : V → Hp → (Hp → Prop) → Prop} {H0 : Hp} {Qd : Hp → Prop} (Pv : Nat → Hp → Prop) (h0 : Pv 0 H0)
    (hs : ∀ i c H, x.cps[i]? = some c → Pv i H → B (.str ⟨#[c]⟩) H (Pv (i + 1))) (hd : ∀ H, Pv x.cps.size H → Qd H) :
    ∃ W : Nat → Nat → Hp → Prop, (∃ m, W 0 m H0) ∧ ∀ i m H, W i m H →
      ((Its x).stop i H ∧ Qd H) ∨ ((Its x).go i H ∧ ∃ Nx : Hp → Prop, (∀ H', Nx H' → ∃ m', m' < m ∧ W (i + 1) m' H') ∧ ∀ v H', (Its x).yld i H v H' → B v H' Nx) := by
  refine ⟨fun i m H => m = x.cps.size - i ∧ i ≤ x.cps.size ∧ Pv i H, ⟨x.cps.size, by simp, Nat.zero_le _, h0⟩, ?_⟩
  rintro i m H ⟨rfl, hi, p⟩
  by_cases hlt : i < x.cps.size
  · refine .inr ⟨hlt, Pv (i + 1), fun H' p' => ⟨x.cps.size - (i + 1), by omega, rfl, hlt, p'⟩, fun v H' y => ?_⟩
    obtain ⟨rfl, c, hc, rfl⟩ := y
    exact hs i c _ hc p
  · have e : i = x.cps.size := by omega
    subst e
    exact .inl ⟨Nat.le_refl _, hd H p⟩
end Gd

namespace Own
open PySem PySem.Spec PyProof.Rows L2 SX
/-! ### the store of numbers that the draws eat -/
structure HpL (H : Hp) (h q : Addr) (cs : List Int) (st : Int) : Prop where
  ne : h ≠ q
  hh : H h = some (.lst [.ref q, .int st])
  hq : H q = some (.lst (cs.map V.int))
  nn : ∀ c ∈ cs, 0 ≤ c
  ln : cs.length ≤ 60
  s0 : 0 ≤ st
  s1 : st < 2147483647
def HpAt (H : Hp) (h q : Addr) : Prop := ∃ cs st, HpL H h q cs st
def Kpt (h q : Addr) (H H' : Hp) : Prop := ∀ b o, H b = some o → b ≠ h → b ≠ q → H' b = some o
theorem Kpt.refl (h q : Addr) (H : Hp) : Kpt h q H H := fun _ _ e _ _ => e
theorem Kpt.trans {h q : Addr} {H H1 H2 : Hp} (a : Kpt h q H H1) (b : Kpt h q H1 H2) : Kpt h q H H2 := fun c o e n1 n2 => b c o (a c o e n1 n2) n1 n2
theorem Kpt.of_same {h q : Addr} {H H' : Hp} (s : Same H H') : Kpt h q H H' := fun b o e _ _ => s b o e
theorem Kpt.at_q {h q : Addr} {H : Hp} {o : HO} : Kpt h q H (upd H q o) := fun b x e _ n => by rw [upd_ne n]; exact e
theorem Kpt.at_h {h q : Addr} {H : Hp} {o : HO} : Kpt h q H (upd H h o) := fun b x e n _ => by rw [upd_ne n]; exact e
theorem HpL.same {H H' : Hp} {h q : Addr} {cs : List Int} {st : Int} (a : HpL H h q cs st) (s : Same H H') : HpL H' h q cs st := ⟨a.ne, s _ _ a.hh, s _ _ a.hq, a.nn, a.ln, a.s0, a.s1⟩
theorem HpAt.same {H H' : Hp} {h q : Addr} (a : HpAt H h q) (s : Same H H') : HpAt H' h q := by
  obtain ⟨cs, st, a⟩ := a
  exact ⟨cs, st, a.same s⟩
theorem HpL.put {H : Hp} {h q : Addr} {cs : List Int} {st : Int} (a : HpL H h q cs st) (ds : List Int) (nn : ∀ c ∈ ds, 0 ≤ c) (ln : ds.length ≤ 60) : HpL (upd H q (.lst (ds.map V.int))) h q ds st :=
  ⟨a.ne, by rw [upd_ne a.ne]; exact a.hh, upd_same, nn, ln, a.s0, a.s1⟩
theorem HpAt.fresh {H : Hp} {h q p : Addr} (a : HpAt H h q) (np : H p = none) : p ≠ h ∧ p ≠ q := by
  obtain ⟨cs, st, a⟩ := a
  exact ⟨(ne_of_none a.hh np).symm, (ne_of_none a.hq np).symm⟩
theorem dp_ints {K : PySem.W.Frag} {H : Hp} : ∀ cs : List Int, DpAll K H (cs.map V.int) (cs.map PyData.int)
  | [] => .nil
  | c :: r => .cons (.int c) (dp_ints r)
theorem shp_ints (ns : List Int) : SeqAt.shaped (.list (ns.map PyData.int)) = true := PySem.W.ke_shaped_ints ns
theorem Kpt.free {h q D : Addr} {H H1 : Hp} (k : Kpt h q H H1) (n : H1 D = none) (n1 : D ≠ h) (n2 : D ≠ q) : H D = none := by
  cases e : H D with
  | none => rfl
  | some o => rw [k _ _ e n1 n2] at n; cases n
theorem Kpt.at_new {h q D : Addr} {H H1 : Hp} {o : HO} (k : Kpt h q H H1) (n : H D = none) : Kpt h q H (upd H1 D o) := fun b x e n1 n2 => by
  rw [upd_ne (ne_of_none e n)]; exact k _ _ e n1 n2
theorem HpAt.upd {H : Hp} {h q D : Addr} {o : HO} (a : HpAt H h q) (n1 : D ≠ h) (n2 : D ≠ q) : HpAt (upd H D o) h q := by
  obtain ⟨cs, st, a⟩ := a
  exact ⟨cs, st, a.ne, by rw [upd_ne n1.symm]; exact a.hh, by rw [upd_ne n2.symm]; exact a.hq, a.nn, a.ln, a.s0, a.s1⟩
theorem cut60 (ns : List Int) : cutV (ns.map V.int) none (some 60) = (ns.take 60).map V.int := by
  unfold cutV
  rw [HT.sIx_none, show HT.sIx (ns.map V.int).length (ns.map V.int).length (some 60) = min 60 (ns.map V.int).length from HT.sIx_nat _ _ 60, List.drop_zero, Nat.sub_zero, List.map_take]
  by_cases h : 60 ≤ (ns.map V.int).length
  · rw [Nat.min_eq_left h]
  · rw [Nat.min_eq_right (by omega), List.take_length, List.take_of_length_le (by omega)]
theorem get_int {ns : List Int} {i : Nat} {x : V} (h : (ns.map V.int)[i]? = some x) : ∃ z, ns[i]? = some z ∧ x = .int z := by
  rw [List.getElem?_map] at h
  cases e : ns[i]? with
  | none => rw [e] at h; cases h
  | some z => rw [e] at h; exact ⟨z, rfl, (Option.some.inj h).symm⟩
end Own

/-! tuple(zip(xs, ys)) of two lists of one length: a new tuple of new pairs. -/
namespace Z3
open PySem PySem.Spec PyProof.Rows L2 RZ
theorem zip_no_len : typeLookup (.type "zip") "__len__" = pure none := by rw [typeLookup_type, builtinLookup_eq_fast]; kernel_rfl
theorem zip_no_hint : typeLookup (.type "zip") "__length_hint__" = pure none := by rw [typeLookup_type, builtinLookup_eq_fast]; kernel_rfl
structure ZSt (a b z TI TO i1 i2 : Addr) (i : Nat) (h : Heap) : Prop where
  h1 : h.IsListIter i1 a i
  h2 : h.IsListIter i2 b i
  hTI : IsPair h TI (.ref i1) (.ref i2)
  hTO : ∃ o, h.get? TO = some o
  st : (IsZip h z TI TO .none ∧ ∃ x y, IsPair h TO x y) ∨ ∃ T f oT, IsZipHeld h z TI TO T f ∧ h.get? T = some oT ∧ T ∉ [z, TO, i1, i2]
def lstO (Ts : List Addr) (c : Nat) : Obj := { cls := .type "list", dict := none, data := .seq (Ts.map Value.ref).toArray c, slots := #[] }
theorem Same.at_new {H : Hp} {p : Addr} {o : HO} (h : H p = none) : L2.Same H (upd H p o) := fun b x e => by
  rw [upd_ne (ne_of_none e h)]; exact e
section
variable {X : Cx} {pins : List (Addr × Obj)} {σ : L2.St} {a b z TI TO i1 i2 S : Addr} {xs ys : List V}
theorem zip_step {A : Around} {E : Value → Shared → Prop} (D : ZipApart z TI TO i1 i2 a b) (nS : S ∉ [z, TI, TO, i1, i2]) {i : Nat} {s : Shared} {H : Hp} {oS : Obj} (I : Inv X pins σ H s) (hf : ∀ b ∈ [z, TI, TO, i1, i2], FpOk X pins H b)
    (hqx : SqL X.K H a xs) (hqy : SqL X.K H b ys) (Z : ZSt a b z TI TO i1 i2 i s.heap) (hS : s.heap.get? S = some oS) {x y : V} (hx : xs[i]? = some x) (hy : ys[i]? = some y) :
    wpAny (model X.prog X.w) A (pyNext (.ref z)) (fun r s1 => r = some (.ref s.heap.objs.size) ∧ Inv X pins σ (upd H s.heap.objs.size (.tup [x, y])) s1 ∧ ZSt a b z TI TO i1 i2 (i + 1) s1.heap ∧ s1.heap.get? S = some oS ∧ s.heap.objs.size < s1.heap.objs.size ∧ s.heap.objs.size ∉ [z, TI, TO, i1, i2, S]) E s := by
  obtain ⟨its, rv, p, _⟩ := I.list hqx
  obtain ⟨its2, rv2, p2, _⟩ := I.list hqy
  obtain ⟨u, hu, ru⟩ := rv.get hx
  obtain ⟨u2, hu2, ru2⟩ := rv2.get hy
  obtain ⟨h1, h2, hTI, ⟨oO, gO⟩, st⟩ := Z
  have ltO : TO < s.heap.objs.size := Heap.lt_size gO
  have Szz : S ≠ z := fun e => nS (by simp [e])
  have Sto : S ≠ TO := fun e => nS (by simp [e])
  have S1 : S ≠ i1 := fun e => nS (by simp [e])
  have S2 : S ≠ i2 := fun e => nS (by simp [e])
  have lt1 : i1 < s.heap.objs.size := by obtain ⟨_, e, _⟩ := h1; exact Heap.lt_size e
  have lt2 : i2 < s.heap.objs.size := by obtain ⟨_, e, _⟩ := h2; exact Heap.lt_size e
  have ltT : TI < s.heap.objs.size := Heap.lt_size hTI
  have ltS : S < s.heap.objs.size := Heap.lt_size hS
  rcases st with ⟨hz, x0, y0, hTO⟩ | ⟨T, f, oT, hz, hT, nT⟩
  · have ltz : z < s.heap.objs.size := Heap.lt_size hz
    refine wpAny_pyNext_zip_item D hz hTI hTO h1 h2 p.isList p2.isList (x := u) (y := u2) (by simpa using hu) (by simpa using hu2) fun h' z' TO' h1' h2' hT hsz hk => ?_
    have new : ObjOk X.prog X.w (upd H s.heap.objs.size (.tup [x, y])) h' s.heap.objs.size (.tup [x, y]) :=
      ⟨by show 2 ≤ sizeLine; decide, [u, u2], .cons ru (.cons ru2 .nil), ⟨_, hT, rfl, _, rfl⟩⟩
    have I1 : Inv X pins σ (upd H s.heap.objs.size (.tup [x, y])) { s with heap := h' } :=
      I.turnedNew (t' := s.toks) (ch := [z, TI, TO, i1, i2]) (fun c o hb q => hk c o (fun q' => hb (by simp [q'])) (fun q' => hb (by simp [q'])) (fun q' => hb (by simp [q'])) (fun q' => hb (by simp [q'])) q) hf (Nat.le_refl _) new
    refine ⟨rfl, I1, ⟨h1', h2', hk _ _ D.TIz D.TITO D.TIi1 D.TIi2 hTI, ⟨_, TO'⟩, .inr ⟨s.heap.objs.size, false, _, z', hT, ?_⟩⟩, hk _ _ Szz Sto S1 S2 hS, ?_, ?_⟩
    · simp only [List.mem_cons, List.not_mem_nil, or_false, not_or]
      exact ⟨Nat.ne_of_gt ltz, Nat.ne_of_gt ltO, Nat.ne_of_gt lt1, Nat.ne_of_gt lt2⟩
    · show s.heap.objs.size < h'.objs.size
      rw [hsz]; exact Nat.lt_succ_self _
    · simp only [List.mem_cons, List.not_mem_nil, or_false, not_or]
      exact ⟨Nat.ne_of_gt ltz, Nat.ne_of_gt ltT, Nat.ne_of_gt ltO, Nat.ne_of_gt lt1, Nat.ne_of_gt lt2, Nat.ne_of_gt ltS⟩
  · have ltz : z < s.heap.objs.size := Heap.lt_size hz
    have nTz : T ≠ z := fun e => nT (by simp [e])
    have nT1 : T ≠ i1 := fun e => nT (by simp [e])
    have nT2 : T ≠ i2 := fun e => nT (by simp [e])
    refine wpAny_pyNext_zip_item_held D hz hT hTI h1 h2 p.isList p2.isList (x := u) (y := u2) (by simpa using hu) (by simpa using hu2) fun h' z' h1' h2' hT' hsz hk => ?_
    have new : ObjOk X.prog X.w (upd H s.heap.objs.size (.tup [x, y])) h' s.heap.objs.size (.tup [x, y]) :=
      ⟨by show 2 ≤ sizeLine; decide, [u, u2], .cons ru (.cons ru2 .nil), ⟨_, hT', rfl, _, rfl⟩⟩
    have I1 : Inv X pins σ (upd H s.heap.objs.size (.tup [x, y])) { s with heap := h' } :=
      I.turnedNew (t' := s.toks) (ch := [z, TI, TO, i1, i2]) (fun c o hb q => hk c o (fun q' => hb (by simp [q'])) (fun q' => hb (by simp [q'])) (fun q' => hb (by simp [q'])) q) hf (Nat.le_refl _) new
    refine ⟨rfl, I1, ⟨h1', h2', hk _ _ D.TIz D.TIi1 D.TIi2 hTI, ⟨_, hk _ _ D.TOz D.TOi1 D.TOi2 gO⟩, .inr ⟨T, true, oT, z', hk _ _ nTz nT1 nT2 hT, nT⟩⟩, hk _ _ Szz S1 S2 hS, ?_, ?_⟩
    · show s.heap.objs.size < h'.objs.size
      rw [hsz]; exact Nat.lt_succ_self _
    · simp only [List.mem_cons, List.not_mem_nil, or_false, not_or]
      exact ⟨Nat.ne_of_gt ltz, Nat.ne_of_gt ltT, Nat.ne_of_gt ltO, Nat.ne_of_gt lt1, Nat.ne_of_gt lt2, Nat.ne_of_gt ltS⟩
/-- the pairs at Ts -/
def Prs (H : Hp) (xs ys : List V) (Ts : List Addr) : Prop := ∀ (j : Nat) (T : Addr) (x y : V), Ts[j]? = some T → xs[j]? = some x → ys[j]? = some y → H T = some (.tup [x, y])
theorem zip_loop {A : Around} {R : Result → Shared → Prop} (hh : A.handled = none) (D : ZipApart z TI TO i1 i2 a b) (nS : S ∉ [z, TI, TO, i1, i2]) (hl : xs.length = ys.length) (hn : xs.length ≤ sizeLine) :
    ∀ (k i : Nat) (s : Shared) (H : Hp) (Ts : List Addr) (c : Nat), xs.length - i = k → i ≤ xs.length → Inv X pins σ H s → (∀ b ∈ [z, TI, TO, i1, i2, S], FpOk X pins H b) → SqL X.K H a xs → SqL X.K H b ys → ZSt a b z TI TO i1 i2 i s.heap →
    Ts.length = i → Prs H xs ys Ts → s.heap.get? S = some (lstO Ts c) →
    (∀ s' H' Ts' c', Inv X pins σ H' s' → Ts'.length = xs.length → L2.Same H H' → Prs H' xs ys Ts' → s'.heap.get? S = some (lstO Ts' c') → R (.ok (.ret (.ref S))) s') →
    codeAny (model X.prog X.w) A (.builtin "list.extend.loop" ⟨[.ref S, .ref z, .ref S], []⟩) R s := by
  intro k
  induction k with
  | zero =>
    intro i s H Ts c hk hi I hf hqx hqy Z lT hP hS hR
    have hin : i = xs.length := by omega
    subst hin
    refine codeAny_builtin F.entry_extend_loop ?_
    rw [Around.under_plainId F.plain_extend_loop _]
    show wpAny _ A.in1 (pyNext (.ref z) >>= _) _ _ s
    have hf5 : ∀ b ∈ [z, TI, TO, i1, i2], FpOk X pins H b := fun b hb => hf b (by simp only [List.mem_cons, List.not_mem_nil, or_false] at hb ⊢; rcases hb with h | h | h | h | h <;> simp [h])
    have Szz : S ≠ z := fun e => nS (by simp [e])
    have Sto : S ≠ TO := fun e => nS (by simp [e])
    have S1 : S ≠ i1 := fun e => nS (by simp [e])
    have S2 : S ≠ i2 := fun e => nS (by simp [e])
    obtain ⟨its, rv, p, _⟩ := I.list hqx
    obtain ⟨its2, rv2, p2, _⟩ := I.list hqy
    have l1 := rv.length
    obtain ⟨h1, h2, hTI, ⟨oO, gO⟩, st⟩ := Z
    rcases st with ⟨hz, x0, y0, hTO⟩ | ⟨T, f, oT, hz, hT, nT⟩
    · refine wpAny_bind (wpAny_pyNext_zip_end hh D hz hTI hTO h1 h2 p.isList p2.isList (.inl (by simp; omega)) fun h' hk => ?_)
      refine wpAny_pure (hR _ H Ts c (I.turnedL (t' := s.toks) (ch := [z, TI, TO, i1, i2]) (fun c o hb q => hk c o (fun q' => hb (by simp [q'])) (fun q' => hb (by simp [q'])) (fun q' => hb (by simp [q'])) (fun q' => hb (by simp [q'])) q) hf5) lT (fun _ _ e => e) hP (hk _ _ Szz Sto S1 S2 hS))
    · refine wpAny_bind (wpAny_pyNext_zip_end_held hh D hz hT hTI h1 h2 p.isList p2.isList (.inl (by simp; omega)) fun h' hk => ?_)
      refine wpAny_pure (hR _ H Ts c (I.turnedL (t' := s.toks) (ch := [z, TI, TO, i1, i2]) (fun c o hb q => hk c o (fun q' => hb (by simp [q'])) (fun q' => hb (by simp [q'])) (fun q' => hb (by simp [q'])) q) hf5) lT (fun _ _ e => e) hP (hk _ _ Szz S1 S2 hS))
  | succ k ih =>
    intro i s H Ts c hk hi I hf hqx hqy Z lT hP hS hR
    have hlt : i < xs.length := by omega
    refine codeAny_builtin F.entry_extend_loop ?_
    rw [Around.under_plainId F.plain_extend_loop _]
    show wpAny _ A.in1 (pyNext (.ref z) >>= _) _ _ s
    have hf5 : ∀ b ∈ [z, TI, TO, i1, i2], FpOk X pins H b := fun b hb => hf b (by simp only [List.mem_cons, List.not_mem_nil, or_false] at hb ⊢; rcases hb with h | h | h | h | h <;> simp [h])
    have hx : xs[i]? = some xs[i] := List.getElem?_eq_getElem hlt
    have hy : ys[i]? = some (ys[i]'(by omega)) := List.getElem?_eq_getElem (by omega)
    refine wpAny_bind (thn (zip_step (S := S) D nS I hf5 hqx hqy Z hS hx hy) fun r s1 ⟨er, I1, Z1, hS1, lt, nin⟩ => ?_)
    subst er
    have nT : H s.heap.objs.size = none := I.hok.fresh (Nat.le_refl _)
    have sm : L2.Same H (upd H s.heap.objs.size (.tup [xs[i], ys[i]'(by omega)])) := Same.at_new nT
    have hf1 : ∀ b ∈ [z, TI, TO, i1, i2, S], FpOk X pins (upd H s.heap.objs.size (.tup [xs[i], ys[i]'(by omega)])) b := fun b hb => by
      obtain ⟨g0, g⟩ := hf b hb
      exact ⟨by rw [upd_ne (fun e => nin (by rw [← e]; exact hb))]; exact g0, g⟩
    show wpAny _ A.in1 (updateSeq S (·.push (.ref s.heap.objs.size)) >>= _) _ _ _
    refine wpAny_bind ?_
    have e2 : (Ts.map Value.ref).toArray.push (.ref s.heap.objs.size) = ((Ts ++ [s.heap.objs.size]).map Value.ref).toArray := by simp
    refine wpAny_updateSeq hS1 rfl (wpAny_pure ⟨plainId_quiet F.plain_extend_loop _, ?_⟩) (by simp; omega) (by simp; omega)
    have hS2 := Heap.get?_update_self (Obj.mapSeq (·.push (Value.ref s.heap.objs.size))) hS1 rfl
    have I2 : Inv X pins σ (upd H s.heap.objs.size (.tup [xs[i], ys[i]'(by omega)])) { s1 with heap := s1.heap.update S (Obj.mapSeq (·.push (Value.ref s.heap.objs.size))) } :=
      I1.turnedL (t' := s1.toks) (ch := [S]) (fun c o hb q => (Heap.get?_update_other _ _ (fun e : S = c => hb (by simp [e]))).trans q) (fun b hb => hf1 b (by simp only [List.mem_singleton] at hb; simp [hb]))
    have oth : ∀ c o, c ≠ S → s1.heap.get? c = some o → (s1.heap.update S (Obj.mapSeq (·.push (Value.ref s.heap.objs.size)))).get? c = some o := fun c o hc q => (Heap.get?_update_other _ _ hc.symm).trans q
    have Z2 : ZSt a b z TI TO i1 i2 (i + 1) (s1.heap.update S (Obj.mapSeq (·.push (Value.ref s.heap.objs.size)))) := by
      obtain ⟨h1, h2, hTI, ⟨oO, gO⟩, st⟩ := Z1
      refine ⟨h1.at fun o q => oth _ o (fun e => nS (by simp [← e])) q, h2.at fun o q => oth _ o (fun e => nS (by simp [← e])) q, oth _ _ (fun e => nS (by simp [← e])) hTI, ⟨oO, oth _ _ (fun e => nS (by simp [← e])) gO⟩, ?_⟩
      rcases st with ⟨hz, x0, y0, hTO⟩ | ⟨T, f, oT, hz, hT, nT⟩
      · exact .inl ⟨oth _ _ (fun e => nS (by simp [← e])) hz, x0, y0, oth _ _ (fun e => nS (by simp [← e])) hTO⟩
      · by_cases hTS : T = S
        · subst hTS
          exact .inr ⟨T, f, _, oth _ _ (fun e => nS (by simp [← e])) hz, hS2, nT⟩
        · exact .inr ⟨T, f, oT, oth _ _ (fun e => nS (by simp [← e])) hz, oth _ _ hTS hT, nT⟩
    have hqx1 : SqL X.K (upd H s.heap.objs.size (.tup [xs[i], ys[i]'(by omega)])) a xs := sm.seq hqx
    have hqy1 : SqL X.K (upd H s.heap.objs.size (.tup [xs[i], ys[i]'(by omega)])) b ys := sm.seq hqy
    refine ih (i + 1) _ _ (Ts ++ [s.heap.objs.size]) (c + 1) (by omega) hlt I2 hf1 hqx1 hqy1 Z2 (by rw [List.length_append, lT]; rfl) (fun j T x y hT hx' hy' => ?_) ?_ (fun s' H' Ts' c' I' l' sm' P' S' => hR s' H' Ts' c' I' l' (fun p o e => sm' p o (sm p o e)) P' S')
    · by_cases hj : j < Ts.length
      · rw [List.getElem?_append_left hj] at hT
        exact sm _ _ (hP j T x y hT hx' hy')
      · rw [List.getElem?_append_right (by omega)] at hT
        have hj' : j - Ts.length < [s.heap.objs.size].length := (List.getElem?_eq_some_iff.mp hT).1
        have ej : j = i := by simp at hj'; omega
        subst ej
        rw [lT, Nat.sub_self] at hT
        cases hT
        rw [hx] at hx'
        rw [hy] at hy'
        cases hx'
        cases hy'
        exact upd_same
    · rw [hS2]
      simp [lstO, Obj.mapSeq]
theorem collect_zip {A : Around} {E : Value → Shared → Prop} {Q : List Value → Shared → Prop} {s : Shared} {H : Hp} (hh : A.handled = none) (D : ZipApart z TI TO i1 i2 a b) (hl : xs.length = ys.length) (hn : xs.length ≤ sizeLine)
    (I : Inv X pins σ H s) (hf : ∀ b ∈ [z, TI, TO, i1, i2], FpOk X pins H b) (hqx : SqL X.K H a xs) (hqy : SqL X.K H b ys) (Z : ZSt a b z TI TO i1 i2 0 s.heap) (hz : IsZip s.heap z TI TO .none)
    (hQ : ∀ s' H' Ts', Inv X pins σ H' s' → Ts'.length = xs.length → L2.Same H H' → Prs H' xs ys Ts' → Q (Ts'.map Value.ref) s') :
    wpAny (model X.prog X.w) A (collect (.ref z)) Q E s := by
  have lt1 : i1 < s.heap.objs.size := by obtain ⟨_, e, _⟩ := Z.h1; exact Heap.lt_size e
  have lt2 : i2 < s.heap.objs.size := by obtain ⟨_, e, _⟩ := Z.h2; exact Heap.lt_size e
  have ltT : TI < s.heap.objs.size := Heap.lt_size Z.hTI
  have ltO : TO < s.heap.objs.size := by obtain ⟨_, e⟩ := Z.hTO; exact Heap.lt_size e
  have ltz : z < s.heap.objs.size := Heap.lt_size hz
  have nS : s.heap.objs.size ∉ [z, TI, TO, i1, i2] := by
    simp only [List.mem_cons, List.not_mem_nil, or_false, not_or]
    exact ⟨Nat.ne_of_gt ltz, Nat.ne_of_gt ltT, Nat.ne_of_gt ltO, Nat.ne_of_gt lt1, Nat.ne_of_gt lt2⟩
  have hSI : s.heap.objs.size ≠ z := Nat.ne_of_gt ltz
  unfold collect
  refine wpAny_bind (wpAny_runValue (codeAny_builtin F.entry_proto_collect ?_))
  rw [Around.under_plainId F.plain_proto_collect _]
  show wpAny _ A.in1 (newList [] >>= fun l => again (.builtin "list.__iadd__" ⟨[l, .ref z], []⟩)) _ _ s
  refine wpAny_bind (wpAny_newObj_type ?_)
  refine wpAny_pure ⟨plainId_quiet F.plain_list_iadd _, codeAny_builtin F.entry_list_iadd ?_⟩
  rw [Around.under_plainId F.plain_list_iadd _]
  show wpAny _ A.in1 (Builtin.List.listExtendWith (.ref s.heap.objs.size) (.ref z) (.ref s.heap.objs.size)) _ _ _
  have up : ∀ c o, s.heap.get? c = some o → (s.heap.push { cls := .type "list", data := .seq ([] : List Value).toArray }).get? c = some o := fun c o e => Heap.get?_push_of_some _ e
  have hz₁ := up _ _ hz
  have hT : Shared.TypeIs { s with heap := s.heap.push { cls := .type "list", data := .seq ([] : List Value).toArray } } (.ref z) "zip" := ⟨_, hz₁, rfl⟩
  unfold Builtin.List.listExtendWith
  refine wpAny_bind (wpAny_typeOf hT ?_)
  have h1 : Builtin.List.listSameRef (.ref s.heap.objs.size) (.ref z) = false := by simp [Builtin.List.listSameRef, hSI]
  have h2 : (Value.type "zip" == Value.type "list") = false := by decide
  have h3 : (Value.type "zip" == Value.type "tuple") = false := by decide
  simp only [h1, h2, h3, Bool.or_false, Bool.false_eq_true, if_false]
  refine wpAny_bind (wpAny_pyIter_zip hz₁ ?_)
  refine wpAny_bind (wpAny_holding ?_)
  unfold Builtin.List.listLengthHint
  refine wpAny_bind (wpAny_specialOf hT zip_no_len ?_)
  show wpAny _ A.in1 (specialOf (Value.ref z) (Str.ofString "__length_hint__") >>= _) _ _ _
  refine wpAny_bind (wpAny_specialOf hT zip_no_hint ?_)
  refine wpAny_pure ?_
  show wpAny _ A.in1 (rule "list.extend.makes-room" >>= fun _ => Builtin.List.listTouch (.ref s.heap.objs.size) >>= fun _ =>
    again (.builtin "list.extend.loop" ⟨[.ref s.heap.objs.size, .ref z, .ref s.heap.objs.size], []⟩)) _ _ _
  refine wpAny_bind (wpAny_rule ?_)
  have hS₁ : (s.heap.push { cls := .type "list", data := .seq ([] : List Value).toArray }).get? s.heap.objs.size = some { cls := .type "list", data := .seq ([] : List Value).toArray } := Heap.get?_push_size _ rfl
  refine wpAny_bind ?_
  show wpAny _ A.in1 (updateSeq s.heap.objs.size (·.push .none) >>= fun _ => updateSeq s.heap.objs.size (·.pop)) _ _ _
  refine wpAny_bind (wpAny_updateSeq hS₁ rfl ?_)
  have hS₂ := Heap.get?_update_self (Obj.mapSeq (·.push Value.none)) hS₁ rfl
  refine wpAny_updateSeq hS₂ rfl ?_
  have hS₃ := Heap.get?_update_self (Obj.mapSeq (·.pop)) hS₂ rfl
  have oth : ∀ b o, b ≠ s.heap.objs.size → (s.heap.push { cls := .type "list", data := .seq ([] : List Value).toArray }).get? b = some o →
      (((s.heap.push { cls := .type "list", data := .seq ([] : List Value).toArray }).update s.heap.objs.size (Obj.mapSeq (·.push Value.none))).update s.heap.objs.size (Obj.mapSeq (·.pop))).get? b = some o :=
    fun b o hb e => (Heap.get?_update_other _ _ (Ne.symm hb)).trans ((Heap.get?_update_other _ _ (Ne.symm hb)).trans e)
  have keep : ∀ b o, s.heap.get? b = some o → (((s.heap.push { cls := .type "list", data := .seq ([] : List Value).toArray }).update s.heap.objs.size (Obj.mapSeq (·.push Value.none))).update s.heap.objs.size (Obj.mapSeq (·.pop))).get? b = some o :=
    fun b o e => oth b o (Nat.ne_of_lt (Heap.lt_size e)) (up _ _ e)
  have I1 : Inv X pins σ H { s with heap := (((s.heap.push { cls := .type "list", data := .seq ([] : List Value).toArray }).update s.heap.objs.size (Obj.mapSeq (·.push Value.none))).update s.heap.objs.size (Obj.mapSeq (·.pop))) } := I.kept (t' := s.toks) keep
  have hf6 : ∀ b ∈ [z, TI, TO, i1, i2, s.heap.objs.size], FpOk X pins H b := fun b hb => by
    by_cases e : b = s.heap.objs.size
    · subst e
      exact I.fpOk (Nat.le_refl _) (I.hok.fresh (Nat.le_refl _))
    · refine hf b ?_
      simp only [List.mem_cons, List.not_mem_nil, or_false] at hb ⊢
      rcases hb with h | h | h | h | h | h
      · simp [h]
      · simp [h]
      · simp [h]
      · simp [h]
      · simp [h]
      · exact absurd h e
  have Z1 : ZSt a b z TI TO i1 i2 0 (((s.heap.push { cls := .type "list", data := .seq ([] : List Value).toArray }).update s.heap.objs.size (Obj.mapSeq (·.push Value.none))).update s.heap.objs.size (Obj.mapSeq (·.pop))) := by
    obtain ⟨h1, h2, hTI, ⟨oO, gO⟩, st⟩ := Z
    refine ⟨h1.at fun o q => keep _ o q, h2.at fun o q => keep _ o q, keep _ _ hTI, ⟨oO, keep _ _ gO⟩, ?_⟩
    rcases st with ⟨hz, x0, y0, hTO⟩ | ⟨T, f, oT, hz, hT, nT⟩
    · exact .inl ⟨keep _ _ hz, x0, y0, keep _ _ hTO⟩
    · exact .inr ⟨T, f, oT, keep _ _ hz, keep _ _ hT, nT⟩
  refine wpAny_pure ⟨plainId_quiet F.plain_extend_loop _, zip_loop (X := X) (pins := pins) (σ := σ) hh D nS hl hn _ 0 _ H [] _ rfl (Nat.zero_le _) I1 hf6 hqx hqy Z1 rfl (fun j T x y h => by simp at h) hS₃ fun s' H' Ts' c' I' l' sm P' hS' => ?_⟩
  show wpAny _ A (load s.heap.objs.size >>= _) _ _ s'
  refine wpAny_bind (wpAny_load hS' ?_)
  refine wpAny_pure ?_
  show Q ((Ts'.map Value.ref).toArray.toList) s'
  rw [List.toList_toArray]
  exact hQ s' H' Ts' I' l' sm P'
theorem code_tuple_new_zip {A : Around} {E : Value → Shared → Prop} {Q₁ : Value → Shared → Prop} {s : Shared} {H : Hp} (hh : A.handled = none) (D : ZipApart z TI TO i1 i2 a b) (hl : xs.length = ys.length) (hn : xs.length ≤ sizeLine)
    (I : Inv X pins σ H s) (hf : ∀ b ∈ [z, TI, TO, i1, i2], FpOk X pins H b) (hqx : SqL X.K H a xs) (hqy : SqL X.K H b ys) (Z : ZSt a b z TI TO i1 i2 0 s.heap) (hz : IsZip s.heap z TI TO .none)
    (h : ∀ s' H' Ts', Inv X pins σ H' s' → Ts'.length = xs.length → L2.Same H H' → Prs H' xs ys Ts' → Q₁ (.ref s'.heap.objs.size) { s' with heap := s'.heap.push { cls := .type "tuple", data := .seq (Ts'.map Value.ref).toArray } }) :
    codeAny (model X.prog X.w) A (.call (.builtin "tuple.__new__") ⟨[.type "tuple", .ref z], []⟩) (wants Q₁ E) s := by
  refine codeAny_of_tree ?_
  show wpAny _ A.in1 (do checkBuiltinCall "tuple.__new__" ⟨[.type "tuple", .ref z], []⟩; again (.builtin "tuple.__new__" ⟨[.type "tuple", .ref z], []⟩)) _ _ s
  refine wpAny_bind (wpAny_of_eq (F.newCall_tuple_1 _) (wpAny_pure ⟨plainId_quiet F.plain_tuple_new _, codeAny_builtin F.entry_tuple_new ?_⟩))
  rw [Around.under_plainId F.plain_tuple_new _]
  have hsub := sub_tuple_self
  have hinit := init_tuple_lookup
  have hmh := madeHere_tuple
  have hTI : s.TypeIs (.ref z) "zip" := ⟨_, hz, rfl⟩
  have hh1 : A.in1.handled = none := hh
  wp_walk using wpAny_typeOf hTI, collect_zip (X := X) (pins := pins) (σ := σ) (A := A.in1) hh1 D hl hn I hf hqx hqy Z hz
  intro s' H' Ts' I' l' sm P'
  show wpAny _ _ (Builtin.Tuple.tupleExact (Ts'.map Value.ref).toArray >>= fun v => ret v) _ _ _
  unfold Builtin.Tuple.tupleExact
  refine wpAny_bind (wpAny_newObj_type ?_ (by show (Ts'.map Value.ref).toArray.size ≤ sizeLine; simp; omega))
  refine wpAny_pure ?_
  exact h s' H' Ts' I' l' sm P'
theorem call_tuple_zip {A : Around} {E : Value → Shared → Prop} {Q : Value → Shared → Prop} {s : Shared} {H : Hp} (hh : A.handled = none) (D : ZipApart z TI TO i1 i2 a b) (hl : xs.length = ys.length) (hn : xs.length ≤ sizeLine)
    (I : Inv X pins σ H s) (hf : ∀ b ∈ [z, TI, TO, i1, i2], FpOk X pins H b) (hqx : SqL X.K H a xs) (hqy : SqL X.K H b ys) (Z : ZSt a b z TI TO i1 i2 0 s.heap) (hz : IsZip s.heap z TI TO .none)
    (hQ : ∀ s' H' Ts', Inv X pins σ H' s' → Ts'.length = xs.length → L2.Same H H' → Prs H' xs ys Ts' → Q (.ref s'.heap.objs.size) { s' with heap := s'.heap.push { cls := .type "tuple", data := .seq (Ts'.map Value.ref).toArray } }) :
    wpAny (model X.prog X.w) A (call (.type "tuple") [.ref z]) Q E s := by
  refine callType_codes (Q₁ := fun obj s₁ => s₁.TypeIs obj "tuple" ∧ Q obj s₁) F.called_tuple (F.typeCall_tuple_1 _) F.entry_object_init
    (code_tuple_new_zip (X := X) (pins := pins) (σ := σ) (A := A.in1) hh D hl hn I hf hqx hqy Z hz fun s' H' Ts' I' l' sm P' => ⟨⟨_, Heap.get?_push_size _ rfl, rfl⟩, hQ s' H' Ts' I' l' sm P'⟩) fun obj s₁ h₁ => ?_
  exact ⟨h₁.1, F.args_object_init_2 obj _, object_init_meets F.called_tuple.init.lookup F.called_tuple.made (by decide) X.prog X.w A.in1 _ s₁ ⟨h₁.1, rfl, h₁.2⟩⟩
end
/-- tuple(zip(xs, ys)) -/
def tTupZip (K : PySem.W.Frag) (ta : TA) : TE := fun σ H Q => ta σ H fun vs H1 => ∃ a b xs ys, vs = [.ref a, .ref b] ∧ SqL K H1 a xs ∧ SqL K H1 b ys ∧ xs.length = ys.length ∧ xs.length ≤ 1000 ∧
  ∀ Ts H2 q, Ts.length = xs.length → L2.Same H1 H2 → Prs H2 xs ys Ts → H2 q = none → Q (.ref q) (upd H2 q (.tup (Ts.map V.ref)))
theorem vals_refs : ∀ Ts : List Addr, Vals (Ts.map V.ref) (Ts.map Value.ref)
  | [] => .nil
  | _ :: t => .cons rfl (vals_refs t)
theorem pe_tupZip {X : Cx} {e e2 : Expr} {ta : TA} {p p2 q pos : Pos} (hg : Gl X "tuple") (hm : X.mg "tuple" = none) (hg2 : Gl X "zip") (hm2 : X.mg "zip" = none) (ha : PA X [e, e2] ta) (hc : X.calm = true := by rfl)
    (hs : starEach [e, e2] X.env = (false, eval e X.env) :: starEach [e2] X.env := by rfl) (hpl : (backTo q (starEach [e2] X.env)).any (·.1) = false := by rfl) :
    PE X (.Call (.Name "tuple" p) [.Call (.Name "zip" p2) [e, e2] [] q] [] pos) (tTupZip X.K ta) := by
  refine ⟨fun pins s σ H Q I h => ?_⟩
  refine Call_ (ld_blt I hg hm boot_tuple ?_)
  refine PyProof.Rows.callWith_type1 (PyProof.Rows.args_cons ?_ rfl) rfl rfl
  refine Call_ (ld_blt I hg2 hm2 PyProof.Rows.boot_zip (PyProof.Rows.callWith_type1 (thn (ha.run q pins s σ H _ I h) fun us s1 ⟨vs, H1, I1, r1, q1⟩ => ?_) hs hpl))
  obtain ⟨a, b, xs, ys, ex, hqx, hqy, hl, hn, q1⟩ := q1
  subst ex
  cases r1 with
  | cons r rr =>
    cases rr with
    | cons r' rr =>
      cases rr
      cases r
      cases r'
      obtain ⟨its, rv, p1, _⟩ := I1.list hqx
      obtain ⟨its2, rv2, p2, _⟩ := I1.list hqy
      refine call_zip_2 p1.isList p2.isList fun h' hz hTI hTO h1 h2 hsz hk => ?_
      refine PyProof.Rows.args_nil ?_
      have I2 : Inv X pins σ H1 { s1 with heap := h' } := I1.kept (t' := s1.toks) hk
      have fresh5 : ∀ c, c ∈ [s1.heap.objs.size + 4, s1.heap.objs.size + 2, s1.heap.objs.size + 3, s1.heap.objs.size, s1.heap.objs.size + 1] → FpOk X pins H1 c := fun c hcm => by
        have e' : c = s1.heap.objs.size + 4 ∨ c = s1.heap.objs.size + 2 ∨ c = s1.heap.objs.size + 3 ∨ c = s1.heap.objs.size ∨ c = s1.heap.objs.size + 1 := by simpa using hcm
        have hle : s1.heap.objs.size ≤ c := by
          rcases e' with z | z | z | z | z <;> rw [z] <;> first | exact Nat.le_refl _ | exact Nat.le_add_right _ _
        exact I1.fpOk hle (I1.hok.fresh hle)
      refine call_tuple_zip (X := X) (pins := pins) (σ := σ) (I1.ok.hd hc) (PySem.W.ktu_apart s1.heap.objs.size a b p1.lt p2.lt) hl (by rw [sizeLine_eq]; omega) I2 fresh5 hqx hqy ⟨h1, h2, hTI, ⟨_, hTO⟩, .inl ⟨hz, _, _, hTO⟩⟩ hz fun s' H' Ts' I' l' sm P' => ?_
      have new : ObjOk X.prog X.w (upd H' s'.heap.objs.size (.tup (Ts'.map V.ref))) (s'.heap.push { cls := .type "tuple", data := .seq (Ts'.map Value.ref).toArray }) s'.heap.objs.size (.tup (Ts'.map V.ref)) :=
        ⟨by rw [List.length_map, l', sizeLine_eq]; omega, Ts'.map Value.ref, vals_refs Ts', IsTup.new _ _⟩
      exact ⟨.ref s'.heap.objs.size, _, I'.laid (t' := s'.toks) (fun b o e => Heap.get?_push_of_some _ e) (Nat.le_refl _) new, rfl, q1 Ts' H' _ l' sm P' (I'.hok.fresh (Nat.le_refl _))⟩
end Z3

namespace Gd
open PySem PySem.Spec PyProof.Rows L2
theorem tuple_mul1 (l : Addr) (items : Array Value) (n : Nat) (dd : Option Addr) (sl : Array (Option Value)) (u : Tok) (hne : items.isEmpty = false) :
    Meets (Builtin.«tuple.__mul__» ⟨[.ref l, .int 1 u], []⟩) (fun _ R s => s.heap.get? l = some { cls := .type "tuple", dict := dd, data := .seq items n, slots := sl } ∧ R (.ok (.ret (Value.ref l))) s) :=
  .of_wp fun prog w A R s h => by
    obtain ⟨hp, g, d, tk, os⟩ := s
    obtain ⟨hl, h⟩ := h
    have f1 := AutoSeq1.idx_int
    have c1 : (items.isEmpty || (1 : Int) == 1) = true := by simp
    wp_walk using wpAny_loadPart' hl
    repeat (first
      | (refine wpAny_ite_true (by simp) ?_; wp_walk using wpAny_loadPart' hl)
      | (refine wpAny_ite_false (by simp) ?_; wp_walk using wpAny_loadPart' hl))
    exact ⟨_, rfl, h⟩
theorem tuple_mul0 (l : Addr) (items : Array Value) (n : Nat) (dd : Option Addr) (sl : Array (Option Value)) (u : Tok) (hne : items.isEmpty = false) :
    Meets (Builtin.«tuple.__mul__» ⟨[.ref l, .int 0 u], []⟩) (fun _ R s => s.heap.get? l = some { cls := .type "tuple", dict := dd, data := .seq items n, slots := sl } ∧ R (.ok (.ret (Value.ref s.heap.objs.size))) { s with heap := s.heap.push { cls := Value.type "tuple", data := Data.seq #[] }, toks := s.toks }) :=
  .of_wp fun prog w A R s h => by
    obtain ⟨hp, g, d, tk, os⟩ := s
    obtain ⟨hl, h⟩ := h
    have f1 := AutoSeq1.idx_int
    wp_walk using wpAny_loadPart' hl
    repeat (first
      | (refine wpAny_ite_false (by simp [hne]) ?_; wp_walk using wpAny_loadPart' hl)
      | (refine wpAny_ite_true (by simp) ?_; wp_walk using wpAny_loadPart' hl))
    exact ⟨_, rfl, h⟩
/-- a tuple of one or more items, times 0 and more -/
def rRepA (K : PySem.W.Frag) : R2 := fun x y H Q => ∃ l k xs, x = .ref l ∧ y = .int k ∧ SqT K H l xs ∧ xs ≠ [] ∧ 0 ≤ k ∧ k ≤ 1000 ∧ xs.length ≤ 1000 ∧ (k = 1 → Q (.ref l) H) ∧ (k ≠ 1 → ∀ p, H p = none → Q (.ref p) (upd H p (.tup (List.replicate k.toNat xs).flatten)))
theorem op_repA {X : Cx} : OpR X (binaryOp .Mult) (rRepA X.K) := by
  intro pins s σ H x y v u Q I rx ry h
  obtain ⟨l, k, xs, rfl, rfl, hT, hne, h1, h2, hz, q1, q2⟩ := h
  by_cases hk : 2 ≤ k
  · exact op_repT pins s σ H _ _ v u Q I rx ry ⟨l, k, xs, rfl, rfl, hT, hne, hk, h2, hz, q2 (by omega)⟩
  cases rx
  obtain ⟨t, rfl⟩ := ry
  obtain ⟨its, r, ⟨⟨cls, dd, data, sl⟩, ho, hc, n, hd⟩, hs⟩ := I.tuple hT
  simp only at hc hd
  subst hc hd
  have hn : its ≠ [] := fun e => hne (by
    have hle : its.length = xs.length := r.length.symm
    rw [e] at hle
    exact List.eq_nil_of_length_eq_zero hle.symm)
  have hi : its.toArray.isEmpty = false := by
    cases its with
    | nil => exact absurd rfl hn
    | cons a b => rfl
  have h01 : k = 1 ∨ k = 0 := by omega
  rcases h01 with rfl | rfl
  · refine wpAny_binaryOp_repeat_ref (T := "tuple") (U := "int") (by decide) ⟨_, ho, rfl⟩ (fun s' => typeIs_int s' 1 t) noFill_tuple_mul F.fills_int_mul F.slot_int_rmul repeat_tuple F.slot_int_index.lookup
      (call_meets F.slot_int_rmul (typeIs_int s 1 t) F.entry_int_rmul (F.args_int_rmul_2 _ _) (int_rmul_tuple 1 t l its.toArray n dd sl)
        ⟨ho, rfl, ⟨_, ho, rfl⟩, call_meets F.slot_tuple_mul ⟨_, ho, rfl⟩ F.entry_tuple_mul (F.args_tuple_mul_2 _ _) (tuple_mul1 l its.toArray n dd sl t hi) ⟨ho, ?_⟩⟩)
    exact ⟨.ref l, H, I, rfl, q1 rfl⟩
  · refine wpAny_binaryOp_repeat_ref (T := "tuple") (U := "int") (by decide) ⟨_, ho, rfl⟩ (fun s' => typeIs_int s' 0 t) noFill_tuple_mul F.fills_int_mul F.slot_int_rmul repeat_tuple F.slot_int_index.lookup
      (call_meets F.slot_int_rmul (typeIs_int s 0 t) F.entry_int_rmul (F.args_int_rmul_2 _ _) (int_rmul_tuple 0 t l its.toArray n dd sl)
        ⟨ho, rfl, ⟨_, ho, rfl⟩, call_meets F.slot_tuple_mul ⟨_, ho, rfl⟩ F.entry_tuple_mul (F.args_tuple_mul_2 _ _) (tuple_mul0 l its.toArray n dd sl t hi) ⟨ho, ?_⟩⟩)
    refine ⟨.ref s.heap.objs.size, _, I.laid (t' := s.toks) (o := .tup []) (fun b ob q => Heap.get?_push_of_some _ q) (Nat.le_refl _) ?_, rfl, q2 (by decide) _ (I.hok.fresh (Nat.le_refl _))⟩
    exact ⟨Nat.zero_le _, [], .nil, IsTup.new _ _⟩
end Gd

namespace M60
open PySem PySem.Spec PyProof.Rows L2 SX Own Gd
open C8 (Cal pe_c pe_gc pe_mk Mak pss_cut)
open M12 (Sn ld net Pos ld_nn cov lb lb_le lb_step lb_nil)
def topS (i : Nat) : Stmt := PySem.Challenge.pw_paperbest_k60_whole_draws_of_benches.main.body.getD i (.Pass ⟨0, 0, 0, 0⟩)
def inS (i j : Nat) : Stmt := match topS i with
  | .ClassDef _ _ _ b _ _ _ _ _ _ _ => b.getD j (.Pass ⟨0, 0, 0, 0⟩)
  | s => s
def wordsL : List Str := ["and", "bench", "if", "least", "or", "room", "round", "table", "then", "unlike"]
/-- what the text's top has: the tuple of words at aW, the dict of tests at aT -/
structure Txt (K : PySem.W.Frag) (mg : Str → Option Value) (w : World) (aW aT : Addr) (es : Array DictEntry) (n : Nat) : Prop where
  b_len : mg "len" = none
  b_range : mg "range" = none
  b_int : mg "int" = none
  b_abs : mg "abs" = none
  b_all : mg "all" = none
  b_sum : mg "sum" = none
  b_repr : mg "repr" = none
  b_tuple : mg "tuple" = none
  b_bool : mg "bool" = none
  b_str : mg "str" = none
  b_list : mg "list" = none
  b_set : mg "set" = none
  b_any : mg "any" = none
  b_zip : mg "zip" = none
  b_enumerate : mg "enumerate" = none
  b_isinstance : mg "isinstance" = none
  b_min : mg "min" = none
  b_max : mg "max" = none
  b_sorted : mg "sorted" = none
  c_LONGEST_NAME : ∃ u, mg "LONGEST_NAME" = some u ∧ RelV (.int 6) u
  c_LETTERS : ∃ u, mg "LETTERS" = some u ∧ RelV (.str "abcdefghijklmnopqrstuvwxyz") u
  c_WORDS : ∃ u, mg "WORDS" = some u ∧ RelV (.ref aW) u
  c_WISH_TESTS : ∃ u, mg "WISH_TESTS" = some u ∧ RelV (.ref aT) u
  qW : ∀ H, SqT K H aW (wordsL.map V.str)
  kd : KDict K w aT es n
/-! ### integers in tuples -/
def tI (a : List Int) : HO := .tup (a.map V.int)
def LV (H : Hp) (v : V) (a : List Int) : Prop := ∃ q, v = .ref q ∧ H q = some (tI a)
theorem LV.same {H H' : Hp} {v : V} {a : List Int} (h : LV H v a) (s : Same H H') : LV H' v a := by
  obtain ⟨q, e, f⟩ := h
  exact ⟨q, e, s _ _ f⟩
theorem at_map {α : Type} {f : α → V} {a : List α} {i : Nat} {x : V} (h : (a.map f)[i]? = some x) : ∃ c, a[i]? = some c ∧ x = f c := by
  rw [List.getElem?_map] at h
  obtain ⟨c, hc, e⟩ := Option.map_eq_some_iff.mp h
  exact ⟨c, hc, e.symm⟩
theorem small1000 {n : Nat} (h : n < 1000) : n < sizeLine := by rw [sizeLine_eq]; omega
theorem small1001 {n : Nat} (h : n ≤ 1000) : n ≤ sizeLine := by rw [sizeLine_eq]; omega
theorem take_one {α : Type} {a : List α} {i : Nat} {c : α} (h : a[i]? = some c) : a.take (i + 1) = a.take i ++ [c] := by rw [List.take_add_one, h]; rfl
/-- each less than the next one -/
def Inc (a : List Int) : Prop := ∀ i x y, a[i]? = some x → a[i + 1]? = some y → x < y
def Within (n : Nat) (a : List Int) : Prop := ∀ c ∈ a, 0 ≤ c ∧ c < n
theorem reps {i : Nat} : (List.replicate i true).all id = true := by simp
theorem rep_app {i : Nat} : (List.replicate (i + 1) true).map V.bl = (List.replicate i true).map V.bl ++ [V.bl true] := by rw [List.replicate_succ', List.map_append]; rfl
theorem cut_tail {xs : List V} (h : 1 ≤ xs.length) : cutV xs (some 1) none = xs.drop 1 := by
  unfold cutV
  rw [show (some 1 : Option Int) = some ((1 : Nat) : Int) from rfl, HT.sIx_nat, HT.sIx_none, Nat.min_eq_left h, List.take_of_length_le (by rw [List.length_drop]; omega)]
theorem len2 {a b : V} : ([a, b] : List V).length ≤ sizeLine := by rw [sizeLine_eq]; show 2 ≤ _; omega
theorem len3 {a b c : V} : ([a, b, c] : List V).length ≤ sizeLine := by rw [sizeLine_eq]; show 3 ≤ _; omega
/-! ### tuples stay while lists change -/
def TK (H H' : Hp) : Prop := ∀ a xs, H a = some (.tup xs) → H' a = some (.tup xs)
theorem TK.refl (H : Hp) : TK H H := fun _ _ e => e
theorem TK.of {H H' : Hp} (s : Same H H') : TK H H' := fun a xs e => s _ _ e
theorem TK.put {H : Hp} {l : Addr} {xs : List V} {o : HO} (e : H l = some (.lst xs)) : TK H (upd H l o) := fun a ys z => by
  rw [upd_ne (fun h => by rw [h, e] at z; cases z)]; exact z
theorem TK.trans {H H1 H2 : Hp} (x : TK H H1) (y : TK H1 H2) : TK H H2 := fun a xs e => y _ _ (x _ _ e)
theorem TK.kp {H H' : Hp} {h q : Addr} (k : Kpt h q H H') (a : HpAt H h q) : TK H H' := fun b xs e => by
  obtain ⟨cs, st, a⟩ := a
  exact k _ _ e (fun z => by rw [z, a.hh] at e; cases e) (fun z => by rw [z, a.hq] at e; cases e)
theorem LV.tk {H H' : Hp} {v : V} {a : List Int} (h : LV H v a) (s : TK H H') : LV H' v a := by
  obtain ⟨p, e, hp⟩ := h
  exact ⟨p, e, s _ _ hp⟩
inductive All2 {α : Type} (R : V → α → Prop) : List V → List α → Prop
  | nil : All2 R [] []
  | cons {v : V} {vs : List V} {a : α} {as : List α} : R v a → All2 R vs as → All2 R (v :: vs) (a :: as)
theorem All2.mono {α : Type} {R R' : V → α → Prop} (h : ∀ v a, R v a → R' v a) : ∀ {vs : List V} {as : List α}, All2 R vs as → All2 R' vs as
  | _, _, .nil => .nil
  | _, _, .cons g t => .cons (h _ _ g) (t.mono h)
theorem All2.len {α : Type} {R : V → α → Prop} : ∀ {vs : List V} {as : List α}, All2 R vs as → vs.length = as.length
  | _, _, .nil => rfl
  | _, _, .cons _ t => congrArg (· + 1) t.len
theorem All2.app {α : Type} {R : V → α → Prop} {v : V} {a : α} : ∀ {vs : List V} {as : List α}, All2 R vs as → R v a → All2 R (vs ++ [v]) (as ++ [a])
  | _, _, .nil, h => .cons h .nil
  | _, _, .cons g t, h => .cons g (t.app h)
theorem All2.at_ {α : Type} {R : V → α → Prop} : ∀ {vs : List V} {as : List α} {i : Nat} {v : V}, All2 R vs as → vs[i]? = some v → ∃ a, as[i]? = some a ∧ R v a
  | _, _, 0, _, .cons h t, e => by
    cases e
    exact ⟨_, rfl, h⟩
  | _, _, i + 1, _, .cons h t, e => by
    obtain ⟨r, e1, e2⟩ := t.at_ (i := i) (by simpa using e)
    exact ⟨r, by simpa using e1, e2⟩
theorem All2.at2 {α : Type} {R : V → α → Prop} {vs : List V} {as : List α} {i : Nat} {a : α} (h : All2 R vs as) (e : as[i]? = some a) : ∃ v, vs[i]? = some v ∧ R v a := by
  have l := h.len
  have hi : i < vs.length := by rw [l]; exact (List.getElem?_eq_some_iff.mp e).1
  obtain ⟨a', e', g⟩ := h.at_ (List.getElem?_eq_getElem hi)
  rw [e] at e'
  cases e'
  exact ⟨_, List.getElem?_eq_getElem hi, g⟩
section
variable {P : Program} {w : World} {K : PySem.W.Frag} {mg : Str → Option Value} {base : Heap} {aW aT : Addr} {es : Array DictEntry} {nn : Nat}
abbrev s_is_whole : Stmt := topS 27
abbrev n_is_whole : List Str := ["value"]
theorem sc_is_whole : FnScope n_is_whole ["value"] (defScope s_is_whole) := ⟨rfl, rfl, rfl, by decide +kernel, rfl, by decide +kernel, by decide +kernel⟩
def spWhole : Sp := fun vs H Q _ => ∃ i : Int, vs = [.int i] ∧ Q (.bl true) H
theorem ok_is_whole {f : Addr} {fd : FuncData} (F : Fun K "is_whole" "is_whole" s_is_whole f fd) (T : Txt K mg w aW aT es nn) : FnOk P w K mg base CX0 1 f fd ["value"] spWhole := by
  refine F.ok sc_is_whole (fun vs H Q E h => ?_) (fun cdv A outer s H vs Q E hr h => ?_)
  · obtain ⟨i, rfl, _⟩ := h
    rfl
  · obtain ⟨i, rfl, q⟩ := h
    refine ⟨_, (pss_one (ps_ret (pe_and (pe_callB call_isE (by rfl) T.b_isinstance (by decide +kernel) (pa_cons (pv 0) (pa_cons (pe_bltn (v := .ty "int") (by rfl) T.b_int boot_int rfl) pa_nil))) (pe_one (pe_not (pe_callB call_isE (by rfl) T.b_isinstance (by decide +kernel) (pa_cons (pv 0) (pa_cons (pe_bltn (v := .ty "bool") (by rfl) T.b_bool boot_bool rfl) pa_nil)))))))), ?_⟩
    exact ⟨_, rfl, .int i, .type "int", "int", true, rfl, .base (.base (.int i)), by rfl, true, rfl, iteT ⟨_, rfl, .int i, .type "int", "bool", false, rfl, .base (.base (.int i)), by rfl, false, rfl, q⟩⟩
abbrev s_is_places : Stmt := topS 44
abbrev n_is_places : List Str := ["value", "size", "item"]
theorem sc_is_places : FnScope n_is_places ["value", "size"] (defScope s_is_places) := ⟨rfl, rfl, rfl, by decide +kernel, rfl, by decide +kernel, by decide +kernel⟩
def spPlaces : Sp := fun vs H Q _ => ∃ (v : V) (n : Nat) (a : List Int), vs = [v, .int n] ∧ LV H v a ∧ Within n a ∧ a.length ≤ 1000 ∧ ∀ H', Same H H' → Q (.bl true) H'
theorem ok_is_places {f : Addr} {fd : FuncData} (F : Fun K "is_places" "is_places" s_is_places f fd) (T : Txt K mg w aW aT es nn) (c_is_whole : Cal P w K mg base 1 "is_whole" spWhole []) : FnOk P w K mg base CX0 2 f fd ["value", "size"] spPlaces := by
  refine F.ok sc_is_places (fun vs H Q E h => ?_) (fun cdv A outer s H vs Q E hr h => ?_)
  · obtain ⟨v, n, a, rfl, _⟩ := h
    rfl
  · obtain ⟨v, n, a, rfl, ⟨p, rfl, hp⟩, wi, la, q⟩ := h
    refine ⟨_, (pss_cons (ps_if (pt_not (pt_val (pe_callB call_isE (by rfl) T.b_isinstance (by decide +kernel) (pa_cons (pv 0) (pa_cons (pe_bltn (v := .ty "tuple") (by rfl) T.b_tuple boot_tuple rfl) pa_nil))))) (pss_one (ps_ret pe_bl)) pss_nil)
      (pss_one (ps_ret (pe_callB (cr_all rfl) (by rfl) T.b_all (by decide +kernel) (pa_cons (pe_lc (own := [("item", 2)]) rfl sc_is_places.nd (pi_tup (pv 0)) (blkOk_by (N := n_is_places) (sc := defScope s_is_places) (by decide +kernel)) (fun _ _ _ _ _ => (pg_name (i := 2) sc_is_places.nd rfl (.inl rfl))) (fun _ _ _ _ _ => pts_nil) (fun _ _ _ _ _ => (pe_and (pe_c c_is_whole hr (by decide) (by rfl) (pa_cons (pv 2) pa_nil)) (pe_one (pe_chain op_le op_lt pe_int (pv 2) (pv 1)))))) pa_nil))))), ?_⟩
    refine ⟨_, rfl, .ref p, .type "tuple", "tuple", true, rfl, .base (.base (.tup hp)), by rfl, true, rfl, iteF ?_⟩
    refine ⟨_, rfl, p, rfl, ⟨_, sq_tup hp⟩, fun D nD => ?_⟩
    refine lc_tup (K := K) (a := p) (xs := a.map V.int) (fun i H' => H' D = some (.lst ((List.replicate i true).map V.bl)) ∧ Same H H') ⟨upd_same, same_upd nD⟩ (fun i H' _ h => sq_tup (h.2 _ _ hp)) ?_ ?_
    · rintro i x H2 hx ⟨hD, sm⟩
      obtain ⟨c, hc, rfl⟩ := at_map hx
      have li : i < a.length := (List.getElem?_eq_some_iff.mp hc).1
      obtain ⟨c0, c1⟩ := wi c (List.mem_of_getElem? hc)
      refine ⟨rfl, _, rfl, c, rfl, true, rfl, iteT ⟨_, rfl, _, _, rfl, rfl, _, rfl, ite2 (fun _ => ?_) (fun h => absurd (decide_eq_true c0) h)⟩⟩
      refine ⟨_, rfl, _, _, rfl, rfl, _, hD, (by rw [List.length_map, List.length_replicate]; exact small1000 (by omega)), ?_, same_at sm nD⟩
      rw [upd_same, rep_app, show (fun i j : Int => V.bl (decide (i < j))) c n = V.bl true from congrArg V.bl (decide_eq_true c1)]
    · rintro H2 ⟨hD, sm⟩
      refine ⟨D, _, rfl, sq_lst hD, ?_⟩
      rw [reps]
      exact q _ sm
abbrev s_is_integers : Stmt := topS 45
abbrev n_is_integers : List Str := ["value", "many", "item"]
theorem sc_is_integers : FnScope n_is_integers ["value", "many"] (defScope s_is_integers) := ⟨rfl, rfl, rfl, by decide +kernel, rfl, by decide +kernel, by decide +kernel⟩
def spInts : Sp := fun vs H Q _ => ∃ (v : V) (a : List Int), vs = [v, .int (a.length : Nat)] ∧ LV H v a ∧ a.length ≤ 1000 ∧ ∀ H', Same H H' → Q (.bl true) H'
theorem ok_is_integers {f : Addr} {fd : FuncData} (F : Fun K "is_integers" "is_integers" s_is_integers f fd) (T : Txt K mg w aW aT es nn) (c_is_whole : Cal P w K mg base 1 "is_whole" spWhole []) : FnOk P w K mg base CX0 2 f fd ["value", "many"] spInts := by
  refine F.ok sc_is_integers (fun vs H Q E h => ?_) (fun cdv A outer s H vs Q E hr h => ?_)
  · obtain ⟨v, a, rfl, _⟩ := h
    rfl
  · obtain ⟨v, a, rfl, ⟨p, rfl, hp⟩, la, q⟩ := h
    refine ⟨_, (pss_cons (ps_if (PW.pt (pw_or (pt_not (pt_val (pe_callB call_isE (by rfl) T.b_isinstance (by decide +kernel) (pa_cons (pv 0) (pa_cons (pe_bltn (v := .ty "tuple") (by rfl) T.b_tuple boot_tuple rfl) pa_nil))))) (pw_or1 (pt_cmpR op_ne (pe_callB call_len_seq (by rfl) T.b_len (by decide +kernel) (pa_cons (pv 0) pa_nil)) (pv 1) (nomark _))))) (pss_one (ps_ret pe_bl)) pss_nil)
      (pss_one (ps_ret (pe_callB (cr_all rfl) (by rfl) T.b_all (by decide +kernel) (pa_cons (pe_lc (own := [("item", 2)]) rfl sc_is_integers.nd (pi_tup (pv 0)) (blkOk_by (N := n_is_integers) (sc := defScope s_is_integers) (by decide +kernel)) (fun _ _ _ _ _ => (pg_name (i := 2) sc_is_integers.nd rfl (.inl rfl))) (fun _ _ _ _ _ => pts_nil) (fun _ _ _ _ _ => (pe_c c_is_whole hr (by decide) (by rfl) (pa_cons (pv 2) pa_nil)))) pa_nil))))), ?_⟩
    refine ⟨_, rfl, .ref p, .type "tuple", "tuple", true, rfl, .base (.base (.tup hp)), by rfl, true, rfl, iteF ?_⟩
    refine ⟨_, rfl, p, _, rfl, .inr (sq_tup hp), _, rfl, rfl, _, rfl, ite2 (fun h => absurd h (by simp)) (fun _ => ?_)⟩
    refine ⟨_, rfl, p, rfl, ⟨_, sq_tup hp⟩, fun D nD => ?_⟩
    refine lc_tup (K := K) (a := p) (xs := a.map V.int) (fun i H' => H' D = some (.lst ((List.replicate i true).map V.bl)) ∧ Same H H') ⟨upd_same, same_upd nD⟩ (fun i H' _ h => sq_tup (h.2 _ _ hp)) ?_ ?_
    · rintro i x H2 hx ⟨hD, sm⟩
      obtain ⟨c, hc, rfl⟩ := at_map hx
      have li : i < a.length := (List.getElem?_eq_some_iff.mp hc).1
      refine ⟨rfl, _, rfl, c, rfl, _, hD, (by rw [List.length_map, List.length_replicate]; exact small1000 (by omega)), ?_, same_at sm nD⟩
      rw [upd_same, rep_app]
    · rintro H2 ⟨hD, sm⟩
      refine ⟨D, _, rfl, sq_lst hD, ?_⟩
      rw [reps]
      exact q _ sm
abbrev s_is_lot_of_places : Stmt := topS 43
abbrev n_is_lot_of_places : List Str := ["value", "size", "one", "other"]
theorem sc_is_lot_of_places : FnScope n_is_lot_of_places ["value", "size"] (defScope s_is_lot_of_places) := ⟨rfl, rfl, rfl, by decide +kernel, rfl, by decide +kernel, by decide +kernel⟩
def spLot : Sp := fun vs H Q _ => ∃ (v : V) (n : Nat) (a : List Int), vs = [v, .int n] ∧ LV H v a ∧ Within n a ∧ Inc a ∧ 2 ≤ a.length ∧ a.length ≤ 1000 ∧ ∀ H', Same H H' → Q (.bl true) H'
theorem ok_is_lot_of_places {f : Addr} {fd : FuncData} (F : Fun K "is_lot_of_places" "is_lot_of_places" s_is_lot_of_places f fd) (T : Txt K mg w aW aT es nn) (c_is_places : Cal P w K mg base 2 "is_places" spPlaces []) : FnOk P w K mg base CX0 3 f fd ["value", "size"] spLot := by
  refine F.ok sc_is_lot_of_places (fun vs H Q E h => ?_) (fun cdv A outer s H vs Q E hr h => ?_)
  · obtain ⟨v, n, a, rfl, _⟩ := h
    rfl
  · obtain ⟨v, n, a, rfl, ⟨p, rfl, hp⟩, wi, inc, l2, la, q⟩ := h
    refine ⟨_, (pss_cons (ps_if (pt_not (pt_val (pe_c c_is_places hr (by decide) (by rfl) (pa_cons (pv 0) (pa_cons (pv 1) pa_nil))))) (pss_one (ps_ret pe_bl)) pss_nil)
      (pss_one (ps_ret (pe_callB (cr_all rfl) (by rfl) T.b_all (by decide +kernel) (pa_cons (pe_lc (own := [("one", 2), ("other", 3)]) (g := (gTup K 2 (gCons (gName 2) (gCons (gName 3) gNil)))) rfl sc_is_lot_of_places.nd (RZ.pi_zipA (by rfl) T.b_zip (pa_cons (pv 0) (pa_cons (pe_slice sl_tupA (pv 0) (po_some pe_int) po_none) pa_nil))) (blkOk_by (N := n_is_lot_of_places) (sc := defScope s_is_lot_of_places) (by decide +kernel)) (fun _ _ _ _ _ => (pg_tup rfl (pgs_cons (pg_name (i := 2) sc_is_lot_of_places.nd rfl (.inl rfl)) (pgs_cons (pg_name (i := 3) sc_is_lot_of_places.nd rfl (.inl rfl)) pgs_nil)))) (fun _ _ _ _ _ => pts_nil) (fun _ _ _ _ _ => (pe_cmpR op_lt (pv 2) (pv 3) (nomark _)))) pa_nil))))), ?_⟩
    refine ⟨_, rfl, _, rfl, .ref p, n, a, rfl, ⟨p, rfl, hp⟩, wi, la, fun H1 s1 => ⟨true, rfl, iteF ?_⟩⟩
    have hp1 := s1 _ _ hp
    have lm : (a.map V.int).length = a.length := List.length_map ..
    refine ⟨_, rfl, _, rfl, _, rfl, p, _, rfl, sq_tup hp1, fun z => ?_, fun _ y ny => ?_⟩
    · exfalso
      have z := z.1
      rw [show (some 1 : Option Int) = some ((1 : Nat) : Int) from rfl, HT.sIx_nat, lm] at z
      omega
    rw [cut_tail (by omega)]
    have k2 := same_upd (o := .tup ((a.map V.int).drop 1)) ny
    have e2 : upd H1 y (.tup ((a.map V.int).drop 1)) y = some (.tup ((a.map V.int).drop 1)) := upd_same
    generalize upd H1 y (.tup ((a.map V.int).drop 1)) = H2 at *
    have hp2 := k2 _ _ hp1
    refine ⟨p, y, _, _, rfl, .inr ⟨sq_tup hp2, sq_tup e2, fun D nD => ?_⟩⟩
    refine lc_zipM (K := K) (a := p) (b := y) (xs := a.map V.int) (ys := (a.map V.int).drop 1) (a.length - 1) (by rw [List.length_drop, lm]; omega)
      (fun i H' => H' D = some (.lst ((List.replicate i true).map V.bl)) ∧ Same H2 H') ⟨upd_same, same_upd nD⟩ (fun i H' h => ⟨sq_tup (h.2 _ _ hp2), sq_tup (h.2 _ _ e2)⟩) ?_ ?_
    · rintro i c d T' H3 hc hd ⟨hD, sm⟩ nT
      obtain ⟨c, hc', rfl⟩ := at_map hc
      rw [List.getElem?_drop, Nat.add_comm] at hd
      obtain ⟨d, hd', rfl⟩ := at_map hd
      have li : i < a.length := (List.getElem?_eq_some_iff.mp hc').1
      have DT : D ≠ T' := ne_of_none hD nT
      have lt := inc i c d hc' hd'
      refine ⟨T', _, rfl, sq_tup upd_same, rfl, _, _, rfl, _, _, rfl, rfl, rfl, ?_⟩
      refine ⟨_, rfl, _, rfl, _, _, rfl, rfl, _, (by rw [upd_ne DT]; exact hD), (by rw [List.length_map, List.length_replicate]; exact small1000 (by omega)), ?_, same_at (same_at sm (sm.free nT)) nD⟩
      rw [upd_same, rep_app, show (fun i j : Int => V.bl (decide (i < j))) c d = V.bl true from congrArg V.bl (decide_eq_true lt)]
    · rintro H3 ⟨hD, sm⟩
      refine ⟨D, _, rfl, sq_lst hD, ?_⟩
      rw [reps]
      exact q _ ((s1.trans k2).trans sm)
end
end M60

namespace M60
open PySem PySem.Spec PyProof.Rows L2 SX Own Gd
open C8 (Cal pe_c pe_gc pe_mk Mak pss_cut)
open M12 (Sn ld net Pos ld_nn cov lb lb_le lb_step lb_nil)
/-! ### wishes -/
abbrev LVs (H : Hp) : List V → List (List Int) → Prop := All2 (LV H)
theorem LVs.same {H H' : Hp} (s : Same H H') {vs : List V} {as : List (List Int)} (h : LVs H vs as) : LVs H' vs as := h.mono fun _ _ g => g.same s
/-- jobs of integers -/
def JLV (H : Hp) (v : V) (js : List (List Int)) : Prop := ∃ p us, v = .ref p ∧ H p = some (.tup us) ∧ LVs H us js
theorem JLV.same {H H' : Hp} {v : V} {js : List (List Int)} (h : JLV H v js) (s : Same H H') : JLV H' v js := by
  obtain ⟨p, us, e, f, g⟩ := h
  exact ⟨p, us, e, s _ _ f, g.same s⟩
def placeOf (j : List Int) : Int := j.getD 0 0
structure JobsOk (size many : Nat) (js : List (List Int)) : Prop where
  two : 2 ≤ js.length
  few : js.length ≤ 100
  len : ∀ j ∈ js, j.length = many
  one : ∀ j ∈ js, ∀ c ∈ j.drop 1, 1 ≤ c
  inc : Inc (js.map placeOf)
  wi : Within size (js.map placeOf)
def T3 (H : Hp) (v : V) (a b c : Int) : Prop := ∃ p, v = .ref p ∧ H p = some (.tup [.int a, .int b, .int c])
def P2 (H : Hp) (v : V) (a : Int × Int) : Prop := ∃ p, v = .ref p ∧ H p = some (.tup [.int a.1, .int a.2])
def JV (H : Hp) (v : V) (j : Jb) : Prop := T3 H v j.1 j.2.1 j.2.2
def BV (H : Hp) (v : V) (j : Jb) : Prop := P2 H v (j.1, j.2.1)
theorem T3.tk {H H' : Hp} {v : V} {a b c : Int} (h : T3 H v a b c) (s : TK H H') : T3 H' v a b c := by
  obtain ⟨p, e, f⟩ := h
  exact ⟨p, e, s _ _ f⟩
theorem P2.tk {H H' : Hp} {v : V} {a : Int × Int} (h : P2 H v a) (s : TK H H') : P2 H' v a := by
  obtain ⟨p, e, f⟩ := h
  exact ⟨p, e, s _ _ f⟩
theorem jsTk {H H' : Hp} (s : TK H H') {us : List V} {js : List Jb} (h : All2 (JV H) us js) : All2 (JV H') us js := h.mono fun _ _ g => T3.tk g s
theorem bsTk {H H' : Hp} (s : TK H H') {us : List V} {js : List Jb} (h : All2 (BV H) us js) : All2 (BV H') us js := h.mono fun _ _ g => P2.tk g s
theorem p2Tk {H H' : Hp} (s : TK H H') {us : List V} {js : List (Int × Int)} (h : All2 (P2 H) us js) : All2 (P2 H') us js := h.mono fun _ _ g => P2.tk g s
theorem All2.mapR {α β : Type} {R : V → α → Prop} {R' : V → β → Prop} {f : α → β} (h : ∀ v a, R v a → R' v (f a)) : ∀ {vs : List V} {as : List α}, All2 R vs as → All2 R' vs (as.map f)
  | _, _, .nil => .nil
  | _, _, .cons g t => .cons (h _ _ g) (t.mapR h)
inductive Wish
  | unlike (a : List Int)
  | bench (js : List Jb)
  | room (js : List Jb) (z : Int)
def WV (H : Hp) (v : V) : Wish → Prop
  | .unlike a => ∃ p u, v = .ref p ∧ H p = some (.tup [.str "unlike", u]) ∧ LV H u a
  | .bench js => ∃ p q us, v = .ref p ∧ H p = some (.tup [.str "bench", .ref q]) ∧ H q = some (.tup us) ∧ All2 (BV H) us js
  | .room js z => ∃ p q us, v = .ref p ∧ H p = some (.tup [.str "room", .ref q, .int z]) ∧ H q = some (.tup us) ∧ All2 (JV H) us js
theorem WV.tk {H H' : Hp} {v : V} {x : Wish} (h : WV H v x) (s : TK H H') : WV H' v x := by
  cases x with
  | unlike a =>
    obtain ⟨p, u, e, f, g⟩ := h
    exact ⟨p, u, e, s _ _ f, g.tk s⟩
  | bench js =>
    obtain ⟨p, q, us, e, f, g, a⟩ := h
    exact ⟨p, q, us, e, s _ _ f, s _ _ g, bsTk s a⟩
  | room js z =>
    obtain ⟨p, q, us, e, f, g, a⟩ := h
    exact ⟨p, q, us, e, s _ _ f, s _ _ g, jsTk s a⟩
theorem WV.same {H H' : Hp} {v : V} {x : Wish} (h : WV H v x) (s : Same H H') : WV H' v x := h.tk (TK.of s)
structure WJ (size : Nat) (z : Int) (js : List Jb) : Prop where
  ok : JsOk size z js
  two : 2 ≤ js.length
  few : js.length ≤ 20
  lb : ∀ j ∈ js, j.2.1 ≤ 1000000
  zb : z ≤ 1000000
def WishOk (size : Nat) : Wish → Prop
  | .unlike a => Within size a ∧ Inc a ∧ 2 ≤ a.length ∧ a.length ≤ 1000
  | .bench js => WJ size 1 js
  | .room js z => WJ size z js
def row2 (j : Jb) : List Int := [j.1, j.2.1]
def row3 (j : Jb) : List Int := [j.1, j.2.1, j.2.2]
theorem jobs_rows {size : Nat} {z : Int} {js : List Jb} (w : WJ size z js) {r : Jb → List Int} {many : Nat} (hl : ∀ j, (r j).length = many) (h0 : ∀ j, placeOf (r j) = j.1) (h1 : ∀ j ∈ js, ∀ c ∈ (r j).drop 1, 1 ≤ c) : JobsOk size many (js.map r) := by
  have e : (js.map r).map placeOf = js.map fun j => (j.1 : Int) := by
    rw [List.map_map]; exact List.map_congr_left fun j _ => h0 j
  refine ⟨by rw [List.length_map]; exact w.two, by rw [List.length_map]; exact Nat.le_trans w.few (by decide), fun j hj => ?_, fun j hj => ?_, ?_, ?_⟩
  · obtain ⟨k, _, rfl⟩ := List.mem_map.mp hj; exact hl k
  · obtain ⟨k, hk, rfl⟩ := List.mem_map.mp hj; exact h1 k hk
  · rw [e]
    intro i x y hx hy
    rw [List.getElem?_map] at hx hy
    obtain ⟨a, ha, rfl⟩ := Option.map_eq_some_iff.mp hx
    obtain ⟨b, hb, rfl⟩ := Option.map_eq_some_iff.mp hy
    obtain ⟨h1, e1⟩ := List.getElem?_eq_some_iff.mp ha
    obtain ⟨h2, e2⟩ := List.getElem?_eq_some_iff.mp hb
    have := List.pairwise_iff_getElem.mp w.ok.inc i (i + 1) h1 h2 (by omega)
    rw [e1, e2] at this
    omega
  · rw [e]
    intro c hc
    obtain ⟨k, hk, rfl⟩ := List.mem_map.mp hc
    have := w.ok.pl k hk
    omega
theorem WJ.rows2 {size : Nat} {z : Int} {js : List Jb} (w : WJ size z js) : JobsOk size 2 (js.map row2) := jobs_rows w (fun _ => rfl) (fun _ => rfl) fun j hj c hc => by
  rw [show (row2 j).drop 1 = [j.2.1] from rfl, List.mem_singleton] at hc
  rw [hc]; exact w.ok.len j hj
theorem WJ.rows3 {size : Nat} {z : Int} {js : List Jb} (w : WJ size z js) : JobsOk size 3 (js.map row3) := jobs_rows w (fun _ => rfl) (fun _ => rfl) fun j hj c hc => by
  rw [show (row3 j).drop 1 = [j.2.1, j.2.2] from rfl] at hc
  simp only [List.mem_cons, List.not_mem_nil, or_false] at hc
  rcases hc with rfl | rfl
  · exact w.ok.len j hj
  · exact w.ok.nd1 j hj
theorem rows2V {H : Hp} {us : List V} {js : List Jb} (h : All2 (BV H) us js) : LVs H us (js.map row2) := h.mapR (R' := LV H) (f := row2) fun _ _ g => g
theorem rows3V {H : Hp} {us : List V} {js : List Jb} (h : All2 (JV H) us js) : LVs H us (js.map row3) := h.mapR (R' := LV H) (f := row3) fun _ _ g => g
section
variable {P : Program} {w : World} {K : PySem.W.Frag} {mg : Str → Option Value} {base : Heap} {aW aT : Addr} {es : Array DictEntry} {nn : Nat}
abbrev s_is_unlike : Stmt := topS 47
abbrev n_is_unlike : List Str := ["value", "size"]
theorem sc_is_unlike : FnScope n_is_unlike ["value", "size"] (defScope s_is_unlike) := ⟨rfl, rfl, rfl, by decide +kernel, rfl, by decide +kernel, by decide +kernel⟩
def spUnlike : Sp := fun vs H Q _ => ∃ (p : Addr) (k : V) (v : V) (n : Nat) (a : List Int), vs = [.ref p, .int n] ∧ H p = some (.tup [k, v]) ∧ LV H v a ∧ Within n a ∧ Inc a ∧ 2 ≤ a.length ∧ a.length ≤ 1000 ∧ ∀ H', Same H H' → Q (.bl true) H'
theorem ok_is_unlike {f : Addr} {fd : FuncData} (F : Fun K "_is_unlike" "_is_unlike" s_is_unlike f fd) (T : Txt K mg w aW aT es nn) (c_is_lot_of_places : Cal P w K mg base 3 "is_lot_of_places" spLot []) : FnOk P w K mg base CX0 4 f fd ["value", "size"] spUnlike := by
  refine F.ok sc_is_unlike (fun vs H Q E h => ?_) (fun cdv A outer s H vs Q E hr h => ?_)
  · obtain ⟨p, k, v, n, a, rfl, _⟩ := h
    rfl
  · obtain ⟨p, k, v, n, a, rfl, hp, ⟨qa, rfl, hq⟩, wi, inc, l2, la, q⟩ := h
    refine ⟨_, (pss_one (ps_ret (pe_and (pe_cmpR op_eq (pe_callB call_len_seq (by rfl) T.b_len (by decide +kernel) (pa_cons (pv 0) pa_nil)) pe_int (nomark _)) (pe_and (pe_c c_is_lot_of_places hr (by decide) (by rfl) (pa_cons (pe_ix ix_tup (pv 0) pe_int (fun _ _ => rfl)) (pa_cons (pv 1) pa_nil))) (pe_one (pe_cmpR op_ge (pe_callB call_len_seq (by rfl) T.b_len (by decide +kernel) (pa_cons (pe_ix ix_tup (pv 0) pe_int (fun _ _ => rfl)) pa_nil)) pe_int (nomark _))))))), ?_⟩
    refine ⟨_, rfl, p, _, rfl, .inr (sq_tup hp), rfl, true, rfl, iteT ?_⟩
    refine ⟨_, rfl, p, _, 1, _, rfl, rfl, sq_tup hp, rfl, _, rfl, .ref qa, n, a, rfl, ⟨qa, rfl, hq⟩, wi, inc, l2, la, fun H1 s1 => ⟨true, rfl, iteT ?_⟩⟩
    refine ⟨_, rfl, p, _, 1, _, rfl, rfl, sq_tup (s1 _ _ hp), rfl, qa, _, rfl, .inr (sq_tup (s1 _ _ hq)), _, _, rfl, rfl, ?_⟩
    rw [show (fun i j : Int => V.bl (decide (j ≤ i))) ((a.map V.int).length : Nat) 2 = V.bl true from congrArg V.bl (decide_eq_true (by rw [List.length_map]; omega))]
    exact q _ s1
abbrev s_is_jobs : Stmt := topS 52
abbrev n_is_jobs : List Str := ["value", "size", "many", "job", "item"]
theorem sc_is_jobs : FnScope n_is_jobs ["value", "size", "many"] (defScope s_is_jobs) := ⟨rfl, rfl, rfl, by decide +kernel, rfl, by decide +kernel, by decide +kernel⟩
def spJobs : Sp := fun vs H Q _ => ∃ (v : V) (n many : Nat) (js : List (List Int)), vs = [v, .int n, .int many] ∧ JLV H v js ∧ JobsOk n many js ∧ 1 ≤ many ∧ many ≤ 5 ∧ ∀ H', Same H H' → Q (.bl true) H'
theorem ok_is_jobs {f : Addr} {fd : FuncData} (F : Fun K "_is_jobs" "_is_jobs" s_is_jobs f fd) (T : Txt K mg w aW aT es nn) (c_is_integers : Cal P w K mg base 2 "is_integers" spInts []) (c_is_lot_of_places : Cal P w K mg base 3 "is_lot_of_places" spLot []) : FnOk P w K mg base CX0 4 f fd ["value", "size", "many"] spJobs := by
  refine F.ok sc_is_jobs (fun vs H Q E h => ?_) (fun cdv A outer s H vs Q E hr h => ?_)
  · obtain ⟨v, n, many, js, rfl, _⟩ := h
    rfl
  · obtain ⟨v, n, many, js, rfl, ⟨p, us, rfl, hp, lv⟩, ok, m1, m5, q⟩ := h
    have ul := lv.len
    have two := ok.two
    have few := ok.few
    refine ⟨_, (pss_cons (ps_if (PW.pt (pw_or (pt_not (pt_val (pe_callB call_isE (by rfl) T.b_isinstance (by decide +kernel) (pa_cons (pv 0) (pa_cons (pe_bltn (v := .ty "tuple") (by rfl) T.b_tuple boot_tuple rfl) pa_nil))))) (pw_or1 (pt_cmpR op_lt (pe_callB call_len_seq (by rfl) T.b_len (by decide +kernel) (pa_cons (pv 0) pa_nil)) pe_int (nomark _))))) (pss_one (ps_ret pe_bl)) pss_nil)
      (pss_cons (ps_if (pt_not (pt_val (pe_callB (cr_all rfl) (by rfl) T.b_all (by decide +kernel) (pa_cons (pe_lc (own := [("job", 3)]) rfl sc_is_jobs.nd (pi_tup (pv 0)) (blkOk_by (N := n_is_jobs) (sc := defScope s_is_jobs) (by decide +kernel)) (fun _ _ _ _ _ => (pg_name (i := 3) sc_is_jobs.nd rfl (.inl rfl))) (fun _ _ _ _ _ => pts_nil) (fun _ _ _ _ _ => (pe_c c_is_integers hr (by decide) (by rfl) (pa_cons (pv 3) (pa_cons (pv 2) pa_nil))))) pa_nil)))) (pss_one (ps_ret pe_bl)) pss_nil)
      (pss_cons (ps_if (pt_not (pt_val (pe_c c_is_lot_of_places hr (by decide) (by rfl) (pa_cons (pe_callTy call_tuple_of (by rfl) T.b_tuple (by decide +kernel) (pa_cons (pe_lc (own := [("job", 3)]) rfl sc_is_jobs.nd (pi_tup (pv 0)) (blkOk_by (N := n_is_jobs) (sc := defScope s_is_jobs) (by decide +kernel)) (fun _ _ _ _ _ => (pg_name (i := 3) sc_is_jobs.nd rfl (.inl rfl))) (fun _ _ _ _ _ => pts_nil) (fun _ _ _ _ _ => (pe_ix (r := rIxT K) ix_tup (pv 3) pe_int (fun _ _ => rfl)))) pa_nil)) (pa_cons (pv 1) pa_nil))))) (pss_one (ps_ret pe_bl)) pss_nil)
      (pss_one (ps_ret (pe_callB (cr_all rfl) (by rfl) T.b_all (by decide +kernel) (pa_cons (pe_lc2 (wi1 := iTup K (tSl (rSlA K) (tVar 3) (tPart (tC (V.int 1))) tNoPart)) (own := [("job", 3), ("item", 4)]) (vs1 := [4]) rfl sc_is_jobs.nd (pi_tup (pv 0)) (blkOk_by (N := n_is_jobs) (sc := defScope s_is_jobs) (by decide +kernel)) (by decide) (fun _ _ _ _ _ => (pg_name (i := 3) sc_is_jobs.nd rfl (.inl rfl))) (fun _ _ _ _ _ => pts_nil) (fun _ _ _ _ _ => (pi_tup (pe_slice (r := rSlA K) sl_tupA (pv 3) (po_some pe_int) po_none))) (fun _ _ _ _ _ => (pg_name (i := 4) sc_is_jobs.nd rfl (.inl rfl))) (fun _ _ _ _ _ => pts_nil) (fun _ _ _ _ _ => (pe_cmpR op_ge (pv 4) pe_int (nomark _)))) pa_nil))))))), ?_⟩
    refine ⟨_, rfl, .ref p, .type "tuple", "tuple", true, rfl, .base (.base (.tup hp)), by rfl, true, rfl, iteF ?_⟩
    refine ⟨_, rfl, p, _, rfl, .inr (sq_tup hp), _, _, rfl, rfl, _, rfl, ite2 (fun h => ?_) (fun _ => ?_)⟩
    · exfalso
      have h := of_decide_eq_true h
      omega
    refine ⟨_, rfl, p, rfl, ⟨_, sq_tup hp⟩, fun D nD => ?_⟩
    refine lc_tup (K := K) (a := p) (xs := us) (fun i H' => H' D = some (.lst ((List.replicate i true).map V.bl)) ∧ Same H H') ⟨upd_same, same_upd nD⟩ (fun i H' _ h => sq_tup (h.2 _ _ hp)) ?_ ?_
    · rintro i x H2 hx ⟨hD, sm⟩
      obtain ⟨j, hj, jv⟩ := lv.at_ hx
      have li : i < js.length := (List.getElem?_eq_some_iff.mp hj).1
      have lj := ok.len j (List.mem_of_getElem? hj)
      refine ⟨rfl, _, rfl, _, rfl, x, j, by rw [lj]; rfl, jv.same sm, by omega, fun H3 s3 => ⟨_, s3 _ _ hD, (by rw [List.length_map, List.length_replicate]; exact small1000 (by omega)), ?_, same_at (sm.trans s3) nD⟩⟩
      rw [upd_same, rep_app]
    rintro H2 ⟨hD, sm⟩
    refine ⟨D, _, rfl, sq_lst hD, ?_⟩
    rw [reps]
    refine ⟨true, rfl, iteF ?_⟩
    have hp2 := sm _ _ hp
    refine ⟨_, rfl, p, rfl, ⟨_, sq_tup hp2⟩, fun D2 nD2 => ?_⟩
    refine lc_tup (K := K) (a := p) (xs := us) (fun i H' => H' D2 = some (.lst (((js.take i).map placeOf).map V.int)) ∧ Same H2 H') ⟨upd_same, same_upd nD2⟩ (fun i H' _ h => sq_tup (h.2 _ _ hp2)) ?_ ?_
    · rintro i x H3 hx ⟨hD, s3⟩
      obtain ⟨j, hj, pj, rfl, hpj⟩ := lv.at_ hx
      have li : i < js.length := (List.getElem?_eq_some_iff.mp hj).1
      have lj := ok.len j (List.mem_of_getElem? hj)
      have hpj3 := s3 _ _ (sm _ _ hpj)
      obtain ⟨c, j', rfl⟩ : ∃ c j', j = c :: j' := by
        cases j with
        | nil => simp at lj; omega
        | cons c j' => exact ⟨c, j', rfl⟩
      refine ⟨rfl, _, rfl, pj, _, 0, .int c, rfl, rfl, sq_tup hpj3, atI_nat (j := 0) rfl, _, hD, (by rw [List.length_map, List.length_map, List.length_take]; exact small1000 (by omega)), ?_, same_at s3 nD2⟩
      rw [upd_same, take_one hj, List.map_append, List.map_append]; rfl
    rintro H3 ⟨hD3, s3⟩
    rw [ul, List.take_length] at hD3
    refine ⟨D2, _, rfl, .inl ⟨sq_lst hD3, fun t nt => ?_⟩⟩
    have k4 := same_upd (o := tI (js.map placeOf)) nt
    refine ⟨_, rfl, .ref t, n, js.map placeOf, rfl, ⟨t, rfl, upd_same⟩, ok.wi, ok.inc, by rw [List.length_map]; omega, by rw [List.length_map]; omega, fun H5 s5 => ⟨true, rfl, iteF ?_⟩⟩
    have s05 := ((sm.trans s3).trans k4).trans s5
    have hp5 := s05 _ _ hp
    refine ⟨_, rfl, p, rfl, ⟨_, sq_tup hp5⟩, fun D6 nD6 => ?_⟩
    refine walk_tup (K := K) (a := p) (xs := us) (fun i H' => ∃ m, H' D6 = some (.lst ((List.replicate m true).map V.bl)) ∧ m ≤ i * 5 ∧ Same H5 H') ⟨0, upd_same, Nat.zero_le _, same_upd nD6⟩ (fun i H' _ h => by obtain ⟨m, _, _, sm⟩ := h; exact sq_tup (sm _ _ hp5)) ?_ ?_
    · rintro i x H6 hx ⟨m, hD6, mi, s6⟩
      obtain ⟨j, hj, pj, rfl, hpj⟩ := lv.at_ hx
      have li : i < js.length := (List.getElem?_eq_some_iff.mp hj).1
      have lj := ok.len j (List.mem_of_getElem? hj)
      have hpj6 := s6 _ _ (s05 _ _ hpj)
      have lm : (j.map V.int).length = many := by rw [List.length_map, lj]
      refine ⟨rfl, _, rfl, _, rfl, pj, _, rfl, sq_tup hpj6, fun z => ?_, fun _ y ny => ?_⟩
      · exfalso
        have z := z.1
        rw [show (some 1 : Option Int) = some ((1 : Nat) : Int) from rfl, HT.sIx_nat, lm] at z
        omega
      rw [cut_tail (by omega)]
      have Dy : D6 ≠ y := ne_of_none hD6 ny
      have k7 := same_upd (o := .tup ((j.map V.int).drop 1)) ny
      have ey : upd H6 y (.tup ((j.map V.int).drop 1)) y = some (.tup ((j.map V.int).drop 1)) := upd_same
      have hD7 := k7 _ _ hD6
      have s7 := s6.trans k7
      generalize upd H6 y (.tup ((j.map V.int).drop 1)) = H7 at *
      refine ⟨y, rfl, ⟨_, sq_tup ey⟩, ?_⟩
      refine walk_tup (K := K) (a := y) (xs := (j.map V.int).drop 1) (fun k H' => ∃ m', H' D6 = some (.lst ((List.replicate m' true).map V.bl)) ∧ m' ≤ i * 5 + k ∧ Same H5 H' ∧ H' y = some (.tup ((j.map V.int).drop 1))) ⟨m, hD7, by omega, s7, ey⟩ (fun k H' _ h => by obtain ⟨_, _, _, _, e⟩ := h; exact sq_tup e) ?_ ?_
      · rintro k x H8 hx8 ⟨m', hD8, mk, s8, ey8⟩
        rw [← List.map_drop] at hx8
        obtain ⟨c, hc, rfl⟩ := at_map hx8
        have c1 := ok.one j (List.mem_of_getElem? hj) c (List.mem_of_getElem? hc)
        have lk : k < (j.drop 1).length := (List.getElem?_eq_some_iff.mp hc).1
        rw [List.length_drop] at lk
        refine ⟨rfl, _, rfl, _, _, rfl, rfl, _, hD8, (by rw [List.length_map, List.length_replicate]; exact small1000 (by omega)), m' + 1, ?_, by omega, same_at s8 nD6, by rw [upd_ne Dy.symm]; exact ey8⟩
        rw [upd_same, rep_app, show (fun i j : Int => V.bl (decide (j ≤ i))) c 1 = V.bl true from congrArg V.bl (decide_eq_true c1)]
      · rintro H8 ⟨m', hD8, mk, s8, _⟩
        rw [List.length_drop, lm] at mk
        exact ⟨m', hD8, by omega, s8⟩
    · rintro H6 ⟨m, hD6, _, s6⟩
      refine ⟨D6, _, rfl, sq_lst hD6, ?_⟩
      rw [reps]
      exact q _ (s05.trans s6)
abbrev s_is_bench : Stmt := topS 50
abbrev n_is_bench : List Str := ["value", "size"]
theorem sc_is_bench : FnScope n_is_bench ["value", "size"] (defScope s_is_bench) := ⟨rfl, rfl, rfl, by decide +kernel, rfl, by decide +kernel, by decide +kernel⟩
def spBench : Sp := fun vs H Q _ => ∃ (p : Addr) (k v : V) (n : Nat) (js : List (List Int)), vs = [.ref p, .int n] ∧ H p = some (.tup [k, v]) ∧ JLV H v js ∧ JobsOk n 2 js ∧ ∀ H', Same H H' → Q (.bl true) H'
theorem ok_is_bench {f : Addr} {fd : FuncData} (F : Fun K "_is_bench" "_is_bench" s_is_bench f fd) (T : Txt K mg w aW aT es nn) (c_is_jobs : Cal P w K mg base 4 "_is_jobs" spJobs []) : FnOk P w K mg base CX0 5 f fd ["value", "size"] spBench := by
  refine F.ok sc_is_bench (fun vs H Q E h => ?_) (fun cdv A outer s H vs Q E hr h => ?_)
  · obtain ⟨p, k, v, n, js, rfl, _⟩ := h
    rfl
  · obtain ⟨p, k, v, n, js, rfl, hp, jv, ok, q⟩ := h
    refine ⟨_, (pss_one (ps_ret (pe_and (pe_cmpR op_eq (pe_callB call_len_seq (by rfl) T.b_len (by decide +kernel) (pa_cons (pv 0) pa_nil)) pe_int (nomark _)) (pe_one (pe_c c_is_jobs hr (by decide) (by rfl) (pa_cons (pe_ix ix_tup (pv 0) pe_int (fun _ _ => rfl)) (pa_cons (pv 1) (pa_cons pe_int pa_nil)))))))), ?_⟩
    refine ⟨_, rfl, p, _, rfl, .inr (sq_tup hp), rfl, true, rfl, iteT ?_⟩
    exact ⟨_, rfl, p, _, 1, _, rfl, rfl, sq_tup hp, rfl, _, rfl, v, n, 2, js, rfl, jv, ok, by decide, by decide, fun H' s' => q _ s'⟩
abbrev s_is_room : Stmt := topS 51
abbrev n_is_room : List Str := ["value", "size", "job"]
theorem sc_is_room : FnScope n_is_room ["value", "size"] (defScope s_is_room) := ⟨rfl, rfl, rfl, by decide +kernel, rfl, by decide +kernel, by decide +kernel⟩
def spRoom : Sp := fun vs H Q _ => ∃ (p : Addr) (k : V) (q : Addr) (us : List V) (n : Nat) (js : List Jb) (z : Int), vs = [.ref p, .int n] ∧ H p = some (.tup [k, .ref q, .int z]) ∧ H q = some (.tup us) ∧ All2 (JV H) us js ∧ WJ n z js ∧ ∀ H', Same H H' → Q (.bl true) H'
theorem ok_is_room {f : Addr} {fd : FuncData} (F : Fun K "_is_room" "_is_room" s_is_room f fd) (T : Txt K mg w aW aT es nn) (c_is_whole : Cal P w K mg base 1 "is_whole" spWhole []) (c_is_jobs : Cal P w K mg base 4 "_is_jobs" spJobs []) : FnOk P w K mg base CX0 5 f fd ["value", "size"] spRoom := by
  refine F.ok sc_is_room (fun vs H Q E h => ?_) (fun cdv A outer s H vs Q E hr h => ?_)
  · obtain ⟨p, k, u, us, n, js, z, rfl, _⟩ := h
    rfl
  · obtain ⟨p, k, u, us, n, js, z, rfl, hp, hu, jv, ok, q⟩ := h
    have few := ok.few
    have lus := jv.len
    refine ⟨_, (pss_cons (ps_if (PW.pt (pw_or (pt_cmpR op_ne (pe_callB call_len_seq (by rfl) T.b_len (by decide +kernel) (pa_cons (pv 0) pa_nil)) pe_int (nomark _)) (pw_or (pt_not (pt_val (pe_c c_is_jobs hr (by decide) (by rfl) (pa_cons (pe_ix ix_tup (pv 0) pe_int (fun _ _ => rfl)) (pa_cons (pv 1) (pa_cons pe_int pa_nil)))))) (pw_or1 (pt_not (pt_val (pe_c c_is_whole hr (by decide) (by rfl) (pa_cons (pe_ix ix_tup (pv 0) pe_int (fun _ _ => rfl)) pa_nil)))))))) (pss_one (ps_ret pe_bl)) pss_nil)
      (pss_one (ps_ret (pe_callB (cr_all rfl) (by rfl) T.b_all (by decide +kernel) (pa_cons (pe_lc (own := [("job", 2)]) rfl sc_is_room.nd (pi_tup (pe_ix ix_tup (pv 0) pe_int (fun _ _ => rfl))) (blkOk_by (N := n_is_room) (sc := defScope s_is_room) (by decide +kernel)) (fun _ _ _ _ _ => (pg_name (i := 2) sc_is_room.nd rfl (.inl rfl))) (fun _ _ _ _ _ => pts_nil) (fun _ _ _ _ _ => (pe_cmpR op_le (pe_ix (r := rIxT K) ix_tup (pv 2) pe_int (fun _ _ => rfl)) (pe_ix (r := rIxT K) ix_tup (pv 0) pe_int (fun _ _ => rfl)) (nomark _)))) pa_nil))))), ?_⟩
    refine ⟨_, rfl, p, _, rfl, .inr (sq_tup hp), rfl, _, rfl, iteF ?_⟩
    refine ⟨_, rfl, p, _, 1, _, rfl, rfl, sq_tup hp, rfl, _, rfl, .ref u, n, 3, js.map row3, rfl, ⟨u, us, rfl, hu, rows3V jv⟩, ok.rows3, by decide, by decide, fun H1 s1 => ⟨true, rfl, iteF ?_⟩⟩
    refine ⟨_, rfl, p, _, 2, _, rfl, rfl, sq_tup (s1 _ _ hp), rfl, z, rfl, true, rfl, iteF ?_⟩
    have hu1 := s1 _ _ hu
    refine ⟨_, rfl, p, _, 1, _, rfl, rfl, sq_tup (s1 _ _ hp), rfl, u, rfl, ⟨_, sq_tup hu1⟩, fun D nD => ?_⟩
    refine lc_tup (K := K) (a := u) (xs := us) (fun i H' => H' D = some (.lst ((List.replicate i true).map V.bl)) ∧ Same H1 H') ⟨upd_same, same_upd nD⟩ (fun i H' _ h => sq_tup (h.2 _ _ hu1)) ?_ ?_
    · rintro i x H2 hx ⟨hD, sm⟩
      obtain ⟨j, hj, pj, rfl, hpj⟩ := jv.at_ hx
      have li : i < js.length := (List.getElem?_eq_some_iff.mp hj).1
      have le := ok.ok.ndz j (List.mem_of_getElem? hj)
      have hpj2 := sm _ _ (s1 _ _ hpj)
      refine ⟨rfl, _, rfl, pj, _, 2, _, rfl, rfl, sq_tup hpj2, rfl, _, rfl, p, _, 2, _, rfl, rfl, sq_tup (sm _ _ (s1 _ _ hp)), rfl, _, _, rfl, rfl, _, hD, (by rw [List.length_map, List.length_replicate]; exact small1000 (by omega)), ?_, same_at sm nD⟩
      rw [upd_same, rep_app, show (fun i j : Int => V.bl (decide (i ≤ j))) j.2.2 z = V.bl true from congrArg V.bl (decide_eq_true le)]
    · rintro H2 ⟨hD, sm⟩
      refine ⟨D, _, rfl, sq_lst hD, ?_⟩
      rw [reps]
      exact q _ (s1.trans sm)
/-- a test of the dict by its word -/
structure Tst (P : Program) (w : World) (K : PySem.W.Frag) (mg : Str → Option Value) (base : Heap) (aT : Addr) (fU fB fR : Addr) : Prop where
  u : Held P w K mg base 5 fU spUnlike
  b : Held P w K mg base 5 fB spBench
  r : Held P w K mg base 5 fR spRoom
  iu : KDct K w aT "unlike" (.ref fU)
  ib : KDct K w aT "bench" (.ref fB)
  ir : KDct K w aT "room" (.ref fR)
  ne : fU ≠ fB
  ne2 : fU ≠ fR
  ne3 : fB ≠ fR
def tests (fU fB fR : Addr) (f : Addr) : Option Sp := if f = fU then some spUnlike else if f = fB then some spBench else if f = fR then some spRoom else none
abbrev s_is_wish : Stmt := topS 42
abbrev n_is_wish : List Str := ["value", "size", "test"]
theorem sc_is_wish : FnScope n_is_wish ["value", "size"] (defScope s_is_wish) := ⟨rfl, rfl, rfl, by decide +kernel, rfl, by decide +kernel, by decide +kernel⟩
def spWish : Sp := fun vs H Q _ => ∃ (v : V) (n : Nat) (x : Wish), vs = [v, .int n] ∧ WV H v x ∧ WishOk n x ∧ ∀ H', Same H H' → Q (.bl true) H'
theorem ok_is_wish {f fU fB fR : Addr} {fd : FuncData} (F : Fun K "is_wish" "is_wish" s_is_wish f fd) (T : Txt K mg w aW aT es nn) (S : Tst P w K mg base aT fU fB fR) : FnOk P w K mg base CX0 6 f fd ["value", "size"] spWish := by
  have AH : ∀ f sp, tests fU fB fR f = some sp → Held P w K mg base 5 f sp := fun f sp h => by
    unfold tests at h
    by_cases e1 : f = fU
    · rw [if_pos e1] at h; cases h; subst e1; exact S.u
    · rw [if_neg e1] at h
      by_cases e2 : f = fB
      · rw [if_pos e2] at h; cases h; subst e2; exact S.b
      · rw [if_neg e2] at h
        by_cases e3 : f = fR
        · rw [if_pos e3] at h; cases h; subst e3; exact S.r
        · rw [if_neg e3] at h; cases h
  have tu : tests fU fB fR fU = some spUnlike := if_pos rfl
  have tb : tests fU fB fR fB = some spBench := by unfold tests; rw [if_neg S.ne.symm, if_pos rfl]
  have tr : tests fU fB fR fR = some spRoom := by unfold tests; rw [if_neg S.ne2.symm, if_neg S.ne3.symm, if_pos rfl]
  refine F.ok sc_is_wish (fun vs H Q E h => ?_) (fun cdv A outer s H vs Q E hr h => ?_)
  · obtain ⟨v, n, x, rfl, _⟩ := h
    rfl
  · obtain ⟨v, n, x, rfl, wv, ok, q⟩ := h
    refine ⟨_, (pss_cons (ps_if (PW.pt (pw_or (pt_not (pt_val (pe_callB call_isE (by rfl) T.b_isinstance (by decide +kernel) (pa_cons (pv 0) (pa_cons (pe_bltn (v := .ty "tuple") (by rfl) T.b_tuple boot_tuple rfl) pa_nil))))) (pw_or (pt_not (pt_truth (pv 0) (by intro _; rfl))) (pw_or1 (pt_not (pt_val (pe_callB call_isE (by rfl) T.b_isinstance (by decide +kernel) (pa_cons (pe_ix ix_tup (pv 0) pe_int (fun _ _ => rfl)) (pa_cons (pe_bltn (v := .ty "str") (by rfl) T.b_str boot_str rfl) pa_nil))))))))) (pss_one (ps_ret pe_bl)) pss_nil)
      (pss_cons (ps_if (pt_cmpR (op_notIn_kd T.kd) (pe_ix ix_tup (pv 0) pe_int (fun _ _ => rfl)) (pe_gc (by rfl) T.c_WISH_TESTS) (by rfl)) (pss_one (ps_ret pe_bl)) pss_nil)
      (pss_cons (ps_set (i := 2) sc_is_wish.nd rfl (.inl rfl) (pe_ix ix_kdict (pe_gc (by rfl) T.c_WISH_TESTS) (pe_ix ix_tup (pv 0) pe_int (fun _ _ => rfl)) (fun _ _ => rfl)))
      (pss_one (ps_ret (pe_callA (i := 2) AH hr rfl (.inl rfl) (pa_cons (pv 0) (pa_cons (pv 1) pa_nil)))))))), ?_⟩
    obtain ⟨p, wd, us0, f1, rfl, hp, hd, rest⟩ : ∃ p wd us0 f1, v = .ref p ∧ H p = some (.tup (.str wd :: us0)) ∧ KDct K w aT wd (.ref f1) ∧ (∃ sp, tests fU fB fR f1 = some sp ∧ sp [.ref p, .int n] H Q (fun _ _ _ => False)) := by
      cases x with
      | unlike a =>
        obtain ⟨p, u, rfl, hp, lv⟩ := wv
        exact ⟨p, "unlike", [u], fU, rfl, hp, S.iu, _, tu, p, _, u, n, a, rfl, hp, lv, ok.1, ok.2.1, ok.2.2.1, ok.2.2.2, fun H' s' => q _ s'⟩
      | bench js =>
        obtain ⟨p, u, us, rfl, hp, hu, a⟩ := wv
        have ok : WJ n 1 js := ok
        exact ⟨p, "bench", [.ref u], fB, rfl, hp, S.ib, _, tb, p, _, .ref u, n, js.map row2, rfl, hp, ⟨u, us, rfl, hu, rows2V a⟩, ok.rows2, fun H' s' => q _ s'⟩
      | room js z =>
        obtain ⟨p, u, us, rfl, hp, hu, a⟩ := wv
        exact ⟨p, "room", [.ref u, .int z], fR, rfl, hp, S.ir, _, tr, p, _, u, us, n, js, z, rfl, hp, hu, a, ok, fun H' s' => q _ s'⟩
    obtain ⟨sp, hsp, run⟩ := rest
    refine ⟨_, rfl, .ref p, .type "tuple", "tuple", true, rfl, .base (.base (.tup hp)), by rfl, true, rfl, iteF ?_⟩
    obtain ⟨es', n', u', hk1, hk2, hk3, hk4⟩ := id hd
    refine ⟨_, rfl, true, .inr (.inl ⟨_, sq_tup hp, rfl⟩), iteF ?_⟩
    refine ⟨_, rfl, p, _, 0, _, rfl, rfl, sq_tup hp, atI_nat (j := 0) rfl, .str wd, .type "str", "str", true, rfl, .base (.base (.str wd)), by rfl, true, rfl, iteF ?_⟩
    refine ⟨_, rfl, p, _, 0, _, rfl, rfl, sq_tup hp, atI_nat (j := 0) rfl, wd, some u', rfl, rfl, hk3, _, rfl, iteF ?_⟩
    refine ⟨_, rfl, p, _, 0, _, rfl, rfl, sq_tup hp, atI_nat (j := 0) rfl, aT, wd, _, rfl, rfl, hd, ?_⟩
    exact ⟨f1, sp, rfl, hsp, _, rfl, _, rfl, run⟩
end
end M60

namespace M60
open PySem PySem.Spec PyProof.Rows L2 SX Own Gd
open C8 (Cal pe_c pe_gc pe_mk Mak pss_cut)
open M12 (Sn ld net Pos ld_nn cov lb lb_le lb_step lb_nil)
/-! ### tasks -/
structure NmOk (s : Str) : Prop where
  l1 : 1 ≤ s.length
  l6 : s.length ≤ 6
  let_ : ∀ c ∈ s.cps.toList, c ∈ ("abcdefghijklmnopqrstuvwxyz" : Str).cps.toList
  w : inV (.str s) (wordsL.map V.str) = false
abbrev Unk := Str × Int × Int
def UV (H : Hp) (v : V) (u : Unk) : Prop := ∃ p, v = .ref p ∧ H p = some (.tup [.str u.1, .int u.2.1, .int u.2.2])
inductive UVs (H : Hp) : List V → List Unk → Prop
  | nil : UVs H [] []
  | cons {v : V} {vs : List V} {a : Unk} {as : List Unk} : UV H v a → UVs H vs as → UVs H (v :: vs) (a :: as)
theorem UV.same {H H' : Hp} {v : V} {u : Unk} (h : UV H v u) (s : Same H H') : UV H' v u := by
  obtain ⟨p, e, f⟩ := h
  exact ⟨p, e, s _ _ f⟩
theorem UVs.same {H H' : Hp} (s : Same H H') : ∀ {vs : List V} {as : List Unk}, UVs H vs as → UVs H' vs as
  | _, _, .nil => .nil
  | _, _, .cons h t => .cons (h.same s) (t.same s)
theorem UVs.len {H : Hp} : ∀ {vs : List V} {as : List Unk}, UVs H vs as → vs.length = as.length
  | _, _, .nil => rfl
  | _, _, .cons _ t => congrArg (· + 1) t.len
theorem UVs.at_ {H : Hp} : ∀ {vs : List V} {as : List Unk} {i : Nat} {v : V}, UVs H vs as → vs[i]? = some v → ∃ a, as[i]? = some a ∧ UV H v a
  | _, _, 0, _, .cons h t, e => by
    cases e
    exact ⟨_, rfl, h⟩
  | _, _, i + 1, _, .cons h t, e => by
    obtain ⟨r, e1, e2⟩ := t.at_ (i := i) (by simpa using e)
    exact ⟨r, by simpa using e1, e2⟩
structure UnkOk (us : List Unk) : Prop where
  ne : 1 ≤ us.length
  few : us.length ≤ 100
  nm : ∀ u ∈ us, NmOk u.1
  or_ : ∀ u ∈ us, u.2.1 ≤ u.2.2
  inc : ∀ i u v, us[i]? = some u → us[i + 1]? = some v → u.1.cps.toList < v.1.cps.toList
abbrev WVs (H : Hp) : List V → List Wish → Prop := All2 (WV H)
theorem WVs.same {H H' : Hp} (s : Same H H') {vs : List V} {as : List Wish} (h : WVs H vs as) : WVs H' vs as := h.mono fun _ _ g => g.same s
section
variable {P : Program} {w : World} {K : PySem.W.Frag} {mg : Str → Option Value} {base : Heap} {aW aT : Addr} {es : Array DictEntry} {nn : Nat}
abbrev s_is_name : Stmt := topS 59
abbrev n_is_name : List Str := ["value", "sign"]
theorem sc_is_name : FnScope n_is_name ["value"] (defScope s_is_name) := ⟨rfl, rfl, rfl, by decide +kernel, rfl, by decide +kernel, by decide +kernel⟩
def spName : Sp := fun vs H Q _ => ∃ s : Str, vs = [.str s] ∧ NmOk s ∧ ∀ H', Same H H' → Q (.bl true) H'
theorem ok_is_name {f : Addr} {fd : FuncData} (F : Fun K "is_name" "is_name" s_is_name f fd) (T : Txt K mg w aW aT es nn) : FnOk P w K mg base CX0 1 f fd ["value"] spName := by
  refine F.ok sc_is_name (fun vs H Q E h => ?_) (fun cdv A outer s0 H vs Q E hr h => ?_)
  · obtain ⟨s, rfl, _⟩ := h
    rfl
  · obtain ⟨s, rfl, ok, q⟩ := h
    have l1 := ok.l1
    have l6 := ok.l6
    refine ⟨_, (pss_cons (ps_if (PW.pt (pw_or (pt_not (pt_val (pe_callB call_isE (by rfl) T.b_isinstance (by decide +kernel) (pa_cons (pv 0) (pa_cons (pe_bltn (v := .ty "str") (by rfl) T.b_str boot_str rfl) pa_nil))))) (pw_or (pt_not (pt_chain op_le op_le pe_int (pe_callB call_len_str (by rfl) T.b_len (by decide +kernel) (pa_cons (pv 0) pa_nil)) (pe_gc (by rfl) T.c_LONGEST_NAME))) (pw_or1 (pt_cmpR op_in_seq (pv 0) (pe_gc (by rfl) T.c_WORDS) (by rfl)))))) (pss_one (ps_ret pe_bl)) pss_nil)
      (pss_one (ps_ret (pe_callB (cr_all rfl) (by rfl) T.b_all (by decide +kernel) (pa_cons (pe_lc (own := [("sign", 1)]) rfl sc_is_name.nd (pi_str (pv 0)) (blkOk_by (N := n_is_name) (sc := defScope s_is_name) (by decide +kernel)) (fun _ _ _ _ _ => (pg_name (i := 1) sc_is_name.nd rfl (.inl rfl))) (fun _ _ _ _ _ => pts_nil) (fun _ _ _ _ _ => (pe_cmpR op_in_sign (pv 1) (pe_gc (by rfl) T.c_LETTERS) (by rfl)))) pa_nil))))), ?_⟩
    refine ⟨_, rfl, .str s, .type "str", "str", true, rfl, .base (.base (.str s)), by rfl, true, rfl, iteF ?_⟩
    refine ⟨_, rfl, s, rfl, Nat.le_trans l6 (by rw [sizeLine_eq]; decide), _, _, rfl, rfl, _, rfl, ite2 (fun _ => ?_) (fun h => absurd (decide_eq_true (show (1 : Int) ≤ (s.length : Int) by omega)) h)⟩
    refine ⟨_, _, rfl, rfl, _, rfl, ite2 (fun h => ?_) (fun _ => ?_)⟩
    · exact absurd h (by simp; omega)
    refine ⟨_, rfl, aW, _, rfl, .inr (T.qW H), rfl, by decide, _, rfl, ite2 (fun h => ?_) (fun _ => ?_)⟩
    · have h : inV (.str s) (wordsL.map V.str) = true := h
      rw [ok.w] at h
      cases h
    refine ⟨_, rfl, s, rfl, fun D nD => ?_⟩
    refine walk_str (x := s) (fun i H' => H' D = some (.lst ((List.replicate i true).map V.bl)) ∧ Same H H') ⟨upd_same, same_upd nD⟩ ?_ ?_
    · rintro i c H2 hc ⟨hD, sm⟩
      have li : i < s.cps.size := (Array.getElem?_eq_some_iff.mp hc).1
      have sl : s.cps.size = s.length := rfl
      have mc : c ∈ s.cps.toList := Array.mem_toList_iff.mpr (Array.mem_of_getElem? hc)
      refine ⟨rfl, _, rfl, c, _, rfl, rfl, _, hD, (by rw [List.length_map, List.length_replicate]; exact small1000 (by omega)), ?_, same_at sm nD⟩
      rw [upd_same, rep_app, decide_eq_true (ok.let_ c mc)]
    · rintro H2 ⟨hD, sm⟩
      refine ⟨D, _, rfl, sq_lst hD, ?_⟩
      rw [reps]
      exact q _ sm
abbrev s_is_pair : Stmt := topS 60
abbrev n_is_pair : List Str := ["value"]
theorem sc_is_pair : FnScope n_is_pair ["value"] (defScope s_is_pair) := ⟨rfl, rfl, rfl, by decide +kernel, rfl, by decide +kernel, by decide +kernel⟩
def spPair : Sp := fun vs H Q _ => ∃ (p : Addr) (a b : Int), vs = [.ref p] ∧ H p = some (.tup [.int a, .int b]) ∧ a ≤ b ∧ Q (.bl true) H
theorem ok_is_pair {f : Addr} {fd : FuncData} (F : Fun K "is_pair" "is_pair" s_is_pair f fd) (T : Txt K mg w aW aT es nn) (c_is_whole : Cal P w K mg base 1 "is_whole" spWhole []) : FnOk P w K mg base CX0 2 f fd ["value"] spPair := by
  refine F.ok sc_is_pair (fun vs H Q E h => ?_) (fun cdv A outer s0 H vs Q E hr h => ?_)
  · obtain ⟨p, a, b, rfl, _⟩ := h
    rfl
  · obtain ⟨p, a, b, rfl, hp, ab, q⟩ := h
    refine ⟨_, (pss_cons (ps_if (PW.pt (pw_or (pt_not (pt_val (pe_callB call_isE (by rfl) T.b_isinstance (by decide +kernel) (pa_cons (pv 0) (pa_cons (pe_bltn (v := .ty "tuple") (by rfl) T.b_tuple boot_tuple rfl) pa_nil))))) (pw_or1 (pt_cmpR op_ne (pe_callB call_len_seq (by rfl) T.b_len (by decide +kernel) (pa_cons (pv 0) pa_nil)) pe_int (nomark _))))) (pss_one (ps_ret pe_bl)) pss_nil)
      (pss_one (ps_ret (pe_and (pe_c c_is_whole hr (by decide) (by rfl) (pa_cons (pe_ix ix_tup (pv 0) pe_int (fun _ _ => rfl)) pa_nil)) (pe_and (pe_c c_is_whole hr (by decide) (by rfl) (pa_cons (pe_ix ix_tup (pv 0) pe_int (fun _ _ => rfl)) pa_nil)) (pe_one (pe_cmpR op_le (pe_ix ix_tup (pv 0) pe_int (fun _ _ => rfl)) (pe_ix ix_tup (pv 0) pe_int (fun _ _ => rfl)) (nomark _)))))))), ?_⟩
    refine ⟨_, rfl, .ref p, .type "tuple", "tuple", true, rfl, .base (.base (.tup hp)), by rfl, true, rfl, iteF ?_⟩
    refine ⟨_, rfl, p, _, rfl, .inr (sq_tup hp), rfl, _, rfl, iteF ?_⟩
    refine ⟨_, rfl, p, _, 0, _, rfl, rfl, sq_tup hp, rfl, a, rfl, true, rfl, iteT ?_⟩
    refine ⟨_, rfl, p, _, 1, _, rfl, rfl, sq_tup hp, rfl, b, rfl, true, rfl, iteT ?_⟩
    refine ⟨_, rfl, p, _, 0, _, rfl, rfl, sq_tup hp, rfl, _, rfl, p, _, 1, _, rfl, rfl, sq_tup hp, rfl, _, _, rfl, rfl, ?_⟩
    rw [show (fun i j : Int => V.bl (decide (i ≤ j))) a b = V.bl true from congrArg V.bl (decide_eq_true ab)]
    exact q
abbrev s_is_unknown : Stmt := topS 61
abbrev n_is_unknown : List Str := ["value"]
theorem sc_is_unknown : FnScope n_is_unknown ["value"] (defScope s_is_unknown) := ⟨rfl, rfl, rfl, by decide +kernel, rfl, by decide +kernel, by decide +kernel⟩
def spUnknown : Sp := fun vs H Q _ => ∃ (v : V) (u : Unk), vs = [v] ∧ UV H v u ∧ NmOk u.1 ∧ u.2.1 ≤ u.2.2 ∧ ∀ H', Same H H' → Q (.bl true) H'
theorem ok_is_unknown {f : Addr} {fd : FuncData} (F : Fun K "_is_unknown" "_is_unknown" s_is_unknown f fd) (T : Txt K mg w aW aT es nn) (c_is_name : Cal P w K mg base 1 "is_name" spName []) (c_is_pair : Cal P w K mg base 2 "is_pair" spPair []) : FnOk P w K mg base CX0 3 f fd ["value"] spUnknown := by
  refine F.ok sc_is_unknown (fun vs H Q E h => ?_) (fun cdv A outer s0 H vs Q E hr h => ?_)
  · obtain ⟨v, u, rfl, _⟩ := h
    rfl
  · obtain ⟨v, ⟨s, lo, hi⟩, rfl, ⟨p, rfl, hp⟩, ok, lh, q⟩ := h
    refine ⟨_, (pss_cons (ps_if (PW.pt (pw_or (pt_not (pt_val (pe_callB call_isE (by rfl) T.b_isinstance (by decide +kernel) (pa_cons (pv 0) (pa_cons (pe_bltn (v := .ty "tuple") (by rfl) T.b_tuple boot_tuple rfl) pa_nil))))) (pw_or1 (pt_cmpR op_ne (pe_callB call_len_seq (by rfl) T.b_len (by decide +kernel) (pa_cons (pv 0) pa_nil)) pe_int (nomark _))))) (pss_one (ps_ret pe_bl)) pss_nil)
      (pss_one (ps_ret (pe_and (pe_c c_is_name hr (by decide) (by rfl) (pa_cons (pe_ix ix_tup (pv 0) pe_int (fun _ _ => rfl)) pa_nil)) (pe_one (pe_c c_is_pair hr (by decide) (by rfl) (pa_cons (pe_slice sl_tupA (pv 0) (po_some pe_int) po_none) pa_nil))))))), ?_⟩
    refine ⟨_, rfl, .ref p, .type "tuple", "tuple", true, rfl, .base (.base (.tup hp)), by rfl, true, rfl, iteF ?_⟩
    refine ⟨_, rfl, p, _, rfl, .inr (sq_tup hp), rfl, _, rfl, iteF ?_⟩
    refine ⟨_, rfl, p, _, 0, _, rfl, rfl, sq_tup hp, rfl, s, rfl, ok, fun H1 s1 => ⟨true, rfl, iteT ?_⟩⟩
    refine ⟨_, rfl, _, rfl, p, _, rfl, sq_tup (s1 _ _ hp), (fun z => absurd (show (1 : Nat) = 0 from z.1) (by decide)), fun _ y ny => ?_⟩
    refine ⟨y, lo, hi, rfl, upd_same, lh, q _ (s1.trans (same_upd ny))⟩
abbrev s_check_unknowns : Stmt := topS 62
abbrev n_check_unknowns : List Str := ["value", "at", "item"]
theorem sc_check_unknowns : FnScope n_check_unknowns ["value"] (defScope s_check_unknowns) := ⟨rfl, rfl, rfl, by decide +kernel, rfl, by decide +kernel, by decide +kernel⟩
def spChU : Sp := fun vs H Q _ => ∃ (p : Addr) (us : List V) (ul : List Unk), vs = [.ref p] ∧ H p = some (.tup us) ∧ UVs H us ul ∧ UnkOk ul ∧ ∀ H', Same H H' → Q .non H'
theorem ok_check_unknowns {f : Addr} {fd : FuncData} (F : Fun K "_check_unknowns" "_check_unknowns" s_check_unknowns f fd) (T : Txt K mg w aW aT es nn) (c_is_unknown : Cal P w K mg base 3 "_is_unknown" spUnknown []) : FnOk P w K mg base CX0 4 f fd ["value"] spChU := by
  refine F.ok sc_check_unknowns (fun vs H Q E h => ?_) (fun cdv A outer s0 H vs Q E hr h => ?_)
  · obtain ⟨p, us, ul, rfl, _⟩ := h
    rfl
  · obtain ⟨p, us, ul, rfl, hp, uv, ok, q⟩ := h
    have ne := ok.ne
    have lu := uv.len
    refine ⟨_, (pss_cons (ps_if (PW.pt (pw_or (pt_not (pt_val (pe_callB call_isE (by rfl) T.b_isinstance (by decide +kernel) (pa_cons (pv 0) (pa_cons (pe_bltn (v := .ty "tuple") (by rfl) T.b_tuple boot_tuple rfl) pa_nil))))) (pw_or1 (pt_not (pt_truth (pv 0) (by intro _; rfl)))))) (pss_one ps_dead) pss_nil)
      (pss_one (ps_for PassesOwn.never rfl (pi_enT (by rfl) T.b_enumerate (pa_cons (pv 0) pa_nil)) (pg_tup rfl (pgs_cons (pg_name (i := 1) sc_check_unknowns.nd rfl (.inl rfl)) (pgs_cons (pg_name (i := 2) sc_check_unknowns.nd rfl (.inl rfl)) pgs_nil))) (pss_one (ps_if (PW.pt (pw_or (pt_not (pt_val (pe_c c_is_unknown hr (by decide) (by rfl) (pa_cons (pv 2) pa_nil)))) (pw_or1 (PW.pt (pw_and (pt_cmpR op_gt (pv 1) pe_int (nomark _)) (pw_and1 (pt_cmpR op_le_str (pe_ix ix_tup (pv 2) pe_int (fun _ _ => rfl)) (pe_ix ix_tup (pe_ix ix_tup (pv 0) (pe_op op_sub (pv 1) pe_int) (fun _ _ => rfl)) pe_int (fun _ _ => rfl)) (nomark _)))))))) (pss_one ps_dead) pss_nil))))), ?_⟩
    refine ⟨_, rfl, .ref p, .type "tuple", "tuple", true, rfl, .base (.base (.tup hp)), by rfl, true, rfl, iteF ?_⟩
    refine ⟨_, rfl, true, .inr (.inl ⟨us, sq_tup hp, by cases us with | nil => simp at lu; omega | cons a b => rfl⟩), iteF ?_⟩
    refine ⟨_, rfl, p, us, rfl, sq_tup hp, for_enT (K := K) (a := p) (xs := us) (fun i σ H' => ∃ (y1 y2 : Option V), σ = [some (.ref p), y1, y2] ∧ Same H H')
      ⟨none, none, rfl, Same.refl _⟩ (fun i σ H' h => ?_) (fun i x T' σ H' hx h nT => ?_) (fun σ H' h => ?_)⟩
    · obtain ⟨y1, y2, rfl, sm⟩ := h
      exact sq_tup (sm _ _ hp)
    · obtain ⟨y1, y2, rfl, sm⟩ := h
      obtain ⟨u, hu, pu, rfl, hpu⟩ := uv.at_ hx
      have mu := List.mem_of_getElem? hu
      have sT := same_at (o := .tup [.int (i : Nat), .ref pu]) sm (sm.free nT)
      refine ⟨T', _, rfl, sq_tup upd_same, rfl, _, _, rfl, _, _, rfl, rfl, ?_⟩
      refine ⟨_, rfl, .ref pu, u, rfl, ⟨pu, rfl, sT _ _ hpu⟩, ok.nm u mu, ok.or_ u mu, fun H2 s2 => ⟨true, rfl, iteF ?_⟩⟩
      have s02 := sT.trans s2
      refine ⟨_, rfl, _, _, rfl, rfl, _, rfl, ite2 (fun h1 => ?_) (fun h1 => iteF ⟨_, _, rfl, s02⟩)⟩
      have h1 : (0 : Int) < (i : Int) := of_decide_eq_true h1
      obtain ⟨i', rfl⟩ : ∃ i', i = i' + 1 := ⟨i - 1, by omega⟩
      have hi' : i' < ul.length := by have := (List.getElem?_eq_some_iff.mp hu).1; omega
      have hx' : us[i']? = some us[i'] := List.getElem?_eq_getElem (by omega)
      obtain ⟨u', hu', pu', ex', hpu'⟩ := uv.at_ hx'
      have lt := ok.inc i' u' u hu' hu
      rw [ex'] at hx'
      refine ⟨_, rfl, pu, _, 0, _, rfl, rfl, sq_tup (s02 _ _ hpu), rfl, _, rfl, _, rfl, _, _, rfl, rfl, p, _, _, .ref pu', rfl, rfl, sq_tup (s02 _ _ hp), ?_, pu', _, 0, _, rfl, rfl, sq_tup (s02 _ _ hpu'), rfl, _, _, rfl, rfl, _, rfl, ?_⟩
      · rw [show (((i' + 1 : Nat) : Int) - 1) = (i' : Int) by omega]
        exact atI_nat hx'
      · rw [decide_eq_true lt]
        exact iteF ⟨_, _, rfl, s02⟩
    · obtain ⟨y1, y2, rfl, sm⟩ := h
      exact q _ sm
abbrev s_check_wishes : Stmt := topS 63
abbrev n_check_wishes : List Str := ["value", "size", "at", "item"]
theorem sc_check_wishes : FnScope n_check_wishes ["value", "size"] (defScope s_check_wishes) := ⟨rfl, rfl, rfl, by decide +kernel, rfl, by decide +kernel, by decide +kernel⟩
def spChW : Sp := fun vs H Q _ => ∃ (p : Addr) (us : List V) (n : Nat) (wl : List Wish), vs = [.ref p, .int n] ∧ H p = some (.tup us) ∧ WVs H us wl ∧ (∀ x ∈ wl, WishOk n x) ∧ ∀ H', Same H H' → Q .non H'
theorem ok_check_wishes {f : Addr} {fd : FuncData} (F : Fun K "_check_wishes" "_check_wishes" s_check_wishes f fd) (T : Txt K mg w aW aT es nn) (c_is_wish : Cal P w K mg base 6 "is_wish" spWish []) : FnOk P w K mg base CX0 7 f fd ["value", "size"] spChW := by
  refine F.ok sc_check_wishes (fun vs H Q E h => ?_) (fun cdv A outer s0 H vs Q E hr h => ?_)
  · obtain ⟨p, us, n, wl, rfl, _⟩ := h
    rfl
  · obtain ⟨p, us, n, wl, rfl, hp, wv, ok, q⟩ := h
    refine ⟨_, (pss_cons (ps_if (pt_not (pt_val (pe_callB call_isE (by rfl) T.b_isinstance (by decide +kernel) (pa_cons (pv 0) (pa_cons (pe_bltn (v := .ty "tuple") (by rfl) T.b_tuple boot_tuple rfl) pa_nil))))) (pss_one ps_dead) pss_nil)
      (pss_one (ps_for PassesOwn.never rfl (pi_enT (by rfl) T.b_enumerate (pa_cons (pv 0) pa_nil)) (pg_tup rfl (pgs_cons (pg_name (i := 2) sc_check_wishes.nd rfl (.inl rfl)) (pgs_cons (pg_name (i := 3) sc_check_wishes.nd rfl (.inl rfl)) pgs_nil))) (pss_one (ps_if (pt_not (pt_val (pe_c c_is_wish hr (by decide) (by rfl) (pa_cons (pv 3) (pa_cons (pv 1) pa_nil))))) (pss_one ps_dead) pss_nil))))), ?_⟩
    refine ⟨_, rfl, .ref p, .type "tuple", "tuple", true, rfl, .base (.base (.tup hp)), by rfl, true, rfl, iteF ?_⟩
    refine ⟨_, rfl, p, us, rfl, sq_tup hp, for_enT (K := K) (a := p) (xs := us) (fun i σ H' => ∃ (y1 y2 : Option V), σ = [some (.ref p), some (.int (n : Int)), y1, y2] ∧ Same H H')
      ⟨none, none, rfl, Same.refl _⟩ (fun i σ H' h => ?_) (fun i x T' σ H' hx h nT => ?_) (fun σ H' h => ?_)⟩
    · obtain ⟨y1, y2, rfl, sm⟩ := h
      exact sq_tup (sm _ _ hp)
    · obtain ⟨y1, y2, rfl, sm⟩ := h
      obtain ⟨u, hu, wu⟩ := wv.at_ hx
      have mu := List.mem_of_getElem? hu
      have sT := same_at (o := .tup [.int (i : Nat), x]) sm (sm.free nT)
      refine ⟨T', _, rfl, sq_tup upd_same, rfl, _, _, rfl, _, _, rfl, rfl, ?_⟩
      exact ⟨_, rfl, _, rfl, x, n, u, rfl, wu.same sT, ok u mu, fun H2 s2 => ⟨true, rfl, iteF ⟨_, _, rfl, sT.trans s2⟩⟩⟩
    · obtain ⟨y1, y2, rfl, sm⟩ := h
      exact q _ sm
abbrev s_check_goal : Stmt := topS 64
abbrev n_check_goal : List Str := ["value", "size", "at", "item"]
theorem sc_check_goal : FnScope n_check_goal ["value", "size"] (defScope s_check_goal) := ⟨rfl, rfl, rfl, by decide +kernel, rfl, by decide +kernel, by decide +kernel⟩
def spChG : Sp := fun vs H Q _ => ∃ (v : V) (a : List Int), vs = [v, .int (a.length : Nat)] ∧ LV H v a ∧ ∀ H', Same H H' → Q .non H'
theorem ok_check_goal {f : Addr} {fd : FuncData} (F : Fun K "_check_goal" "_check_goal" s_check_goal f fd) (T : Txt K mg w aW aT es nn) (c_is_whole : Cal P w K mg base 1 "is_whole" spWhole []) : FnOk P w K mg base CX0 2 f fd ["value", "size"] spChG := by
  refine F.ok sc_check_goal (fun vs H Q E h => ?_) (fun cdv A outer s0 H vs Q E hr h => ?_)
  · obtain ⟨v, a, rfl, _⟩ := h
    rfl
  · obtain ⟨v, a, rfl, ⟨p, rfl, hp⟩, q⟩ := h
    refine ⟨_, (pss_cons (ps_if (PW.pt (pw_or (pt_not (pt_val (pe_callB call_isE (by rfl) T.b_isinstance (by decide +kernel) (pa_cons (pv 0) (pa_cons (pe_bltn (v := .ty "tuple") (by rfl) T.b_tuple boot_tuple rfl) pa_nil))))) (pw_or1 (pt_cmpR op_ne (pe_callB call_len_seq (by rfl) T.b_len (by decide +kernel) (pa_cons (pv 0) pa_nil)) (pv 1) (nomark _))))) (pss_one ps_dead) pss_nil)
      (pss_one (ps_for PassesOwn.never rfl (pi_enT (by rfl) T.b_enumerate (pa_cons (pv 0) pa_nil)) (pg_tup rfl (pgs_cons (pg_name (i := 2) sc_check_goal.nd rfl (.inl rfl)) (pgs_cons (pg_name (i := 3) sc_check_goal.nd rfl (.inl rfl)) pgs_nil))) (pss_one (ps_if (pt_not (pt_val (pe_c c_is_whole hr (by decide) (by rfl) (pa_cons (pv 3) pa_nil)))) (pss_one ps_dead) pss_nil))))), ?_⟩
    refine ⟨_, rfl, .ref p, .type "tuple", "tuple", true, rfl, .base (.base (.tup hp)), by rfl, true, rfl, iteF ?_⟩
    refine ⟨_, rfl, p, _, rfl, .inr (sq_tup hp), _, rfl, rfl, _, rfl, ite2 (fun h => absurd h (by simp)) (fun _ => ?_)⟩
    refine ⟨_, rfl, p, _, rfl, sq_tup hp, for_enT (K := K) (a := p) (xs := a.map V.int) (fun i σ H' => ∃ (y1 y2 : Option V), σ = [some (.ref p), some (.int (a.length : Nat)), y1, y2] ∧ Same H H')
      ⟨none, none, rfl, Same.refl _⟩ (fun i σ H' h => ?_) (fun i x T' σ H' hx h nT => ?_) (fun σ H' h => ?_)⟩
    · obtain ⟨y1, y2, rfl, sm⟩ := h
      exact sq_tup (sm _ _ hp)
    · obtain ⟨y1, y2, rfl, sm⟩ := h
      obtain ⟨c, hc, rfl⟩ := at_map hx
      have sT := same_at (o := .tup [.int (i : Nat), .int c]) sm (sm.free nT)
      refine ⟨T', _, rfl, sq_tup upd_same, rfl, _, _, rfl, _, _, rfl, rfl, ?_⟩
      exact ⟨_, rfl, c, rfl, true, rfl, iteF ⟨_, _, rfl, sT⟩⟩
    · obtain ⟨y1, y2, rfl, sm⟩ := h
      exact q _ sm
abbrev s_Task_init : Stmt := inS 58 0
abbrev n_Task_init : List Str := ["self", "unknowns", "wishes", "goal"]
theorem sc_Task_init : FnScope n_Task_init ["self", "unknowns", "wishes", "goal"] (defScope s_Task_init) := ⟨rfl, rfl, rfl, by decide +kernel, rfl, by decide +kernel, by decide +kernel⟩
/-- a task at x -/
def TaskV (C : Addr) (H : Hp) (v : V) (ul : List Unk) (wl : List Wish) (goal : List Int) : Prop := ∃ x dx pu pw pg us ws, v = .ref x ∧ H x = some (.ins C dx [("unknowns", .ref pu), ("wishes", .ref pw), ("goal", .ref pg)]) ∧ H pu = some (.tup us) ∧ UVs H us ul ∧ H pw = some (.tup ws) ∧ WVs H ws wl ∧ H pg = some (tI goal)
theorem put_ne {f g : Str} {v x : V} {r : List (Str × V)} (h : ¬ g = f) : putF f v ((g, x) :: r) = (g, x) :: putF f v r := if_neg h
theorem puts2 (u w : V) : putF "wishes" w (putF "unknowns" u []) = ([("unknowns", u), ("wishes", w)] : List (Str × V)) := put_ne (by decide)
theorem puts3 (u w g : V) : putF "goal" g (putF "wishes" w (putF "unknowns" u [])) = ([("unknowns", u), ("wishes", w), ("goal", g)] : List (Str × V)) := by
  rw [puts2, put_ne (by decide), put_ne (by decide)]; rfl
def spTask (C : Addr) : Sp := fun vs H Q _ => ∃ (x dx pu pw pg : Addr) (us ws : List V) (ul : List Unk) (wl : List Wish) (goal : List Int), vs = [.ref x, .ref pu, .ref pw, .ref pg] ∧ H x = some (.ins C dx []) ∧ H pu = some (.tup us) ∧ UVs H us ul ∧ H pw = some (.tup ws) ∧ WVs H ws wl ∧ H pg = some (tI goal) ∧
  UnkOk ul ∧ (∀ z ∈ wl, WishOk ul.length z) ∧ goal.length = ul.length ∧ ∀ H1, Same H H1 → Q .non (upd H1 x (.ins C dx [("unknowns", .ref pu), ("wishes", .ref pw), ("goal", .ref pg)]))
theorem ok_Task_init {f C : Addr} {fd : FuncData} (F : Fun K "__init__" "Task.__init__" s_Task_init f fd) (cl : Cls K C) (na : NoAttr K C "unknowns" ∧ NoAttr K C "wishes" ∧ NoAttr K C "goal") (T : Txt K mg w aW aT es nn) (c_check_unknowns : Cal P w K mg base 4 "_check_unknowns" spChU []) (c_check_wishes : Cal P w K mg base 7 "_check_wishes" spChW []) (c_check_goal : Cal P w K mg base 2 "_check_goal" spChG []) :
    FnOk P w K mg base CX0 8 f fd ["self", "unknowns", "wishes", "goal"] (spTask C) := by
  refine F.ok sc_Task_init (fun vs H Q E h => ?_) (fun cdv A outer s0 H vs Q E hr h => ?_)
  · obtain ⟨x, dx, pu, pw, pg, us, ws, ul, wl, goal, rfl, _⟩ := h
    rfl
  · obtain ⟨x, dx, pu, pw, pg, us, ws, ul, wl, goal, rfl, hx, hpu, uv, hpw, wv, hpg, uo, wo, lg, q⟩ := h
    refine ⟨_, (pss_cons (ps_expr (pe_c c_check_unknowns hr (by decide) (by rfl) (pa_cons (pv 1) pa_nil)))
      (pss_cons (ps_expr (pe_c c_check_wishes hr (by decide) (by rfl) (pa_cons (pv 2) (pa_cons (pe_callB call_len_seq (by rfl) T.b_len (by decide +kernel) (pa_cons (pv 1) pa_nil)) pa_nil))))
      (pss_cons (ps_expr (pe_c c_check_goal hr (by decide) (by rfl) (pa_cons (pv 3) (pa_cons (pe_callB call_len_seq (by rfl) T.b_len (by decide +kernel) (pa_cons (pv 1) pa_nil)) pa_nil))))
      (pss_cons (ps_fld (pv 0) (pv 1) (by rfl))
      (pss_cons (ps_fld (pv 0) (pv 2) (by rfl))
      (pss_one (ps_fld (pv 0) (pv 3) (by rfl)))))))), ?_⟩
    refine ⟨_, rfl, pu, us, ul, rfl, hpu, uv, uo, fun H1 s1 => ?_⟩
    refine ⟨_, rfl, _, rfl, pu, _, rfl, .inr (sq_tup (s1 _ _ hpu)), pw, ws, ul.length, wl, by rw [uv.len]; rfl, s1 _ _ hpw, wv.same s1, wo, fun H2 s2 => ?_⟩
    have s12 := s1.trans s2
    refine ⟨_, rfl, _, rfl, pu, _, rfl, .inr (sq_tup (s12 _ _ hpu)), .ref pg, goal, by rw [uv.len, lg]; rfl, ⟨pg, rfl, s12 _ _ hpg⟩, fun H3 s3 => ?_⟩
    have s13 := s12.trans s3
    refine ⟨_, rfl, _, rfl, x, C, dx, [], rfl, s13 _ _ hx, cl, na.1, by decide, ?_⟩
    refine ⟨_, rfl, _, rfl, x, C, dx, _, rfl, upd_same, cl, na.2.1, by show 1 < 1000; decide, ?_⟩
    refine ⟨_, rfl, _, rfl, x, C, dx, _, rfl, upd_same, cl, na.2.2, ?_, ?_⟩
    · rw [puts2]; show 2 < 1000; decide
    rw [puts3, upd_upd, upd_upd]
    exact q _ s13
end
end M60

namespace M60
open PySem PySem.Spec PyProof.Rows L2 SX Own Gd
open C8 (Cal pe_c pe_gc pe_mk Mak pss_cut)
open M12 (Sn ld net Pos ld_nn cov lb lb_le lb_step lb_nil)
/-! ### jobs and windows -/
structure CC (K : PySem.W.Frag) (C : Addr) : Prop where
  cl : Cls K C
  nu : NoAttr K C "unknowns"
  nw : NoAttr K C "wishes"
  ng : NoAttr K C "goal"
def Wish.jobs : Wish → List Jb
  | .unlike _ => []
  | .bench js => js
  | .room js _ => js
def Wish.size : Wish → Int
  | .room _ z => z
  | _ => 1
def Wish.isR : Wish → Bool
  | .room _ _ => true
  | _ => false
def Wish.isJ : Wish → Bool
  | .unlike _ => false
  | _ => true
theorem WishOk.wj {n : Nat} {x : Wish} (h : WishOk n x) (j : x.isJ = true) : WJ n x.size x.jobs := by
  cases x with
  | unlike a => cases j
  | bench js => exact h
  | room js z => exact h
theorem WJ.z1 {n : Nat} {z : Int} {js : List Jb} (h : WJ n z js) : 1 ≤ z := by
  have := h.two
  match js, this with
  | j :: _, _ =>
    have h1 := h.ok.nd1 j (List.mem_cons_self ..)
    have h2 := h.ok.ndz j (List.mem_cons_self ..)
    omega
def WdV (H : Hp) (v : V) (w : Wd) : Prop := ∃ p, v = .ref p ∧ H p = some (.tup [.int w.1, .int w.2.1, .int w.2.2.1, .int w.2.2.2])
theorem WdV.tk {H H' : Hp} {v : V} {w : Wd} (h : WdV H v w) (s : TK H H') : WdV H' v w := by
  obtain ⟨p, e, f⟩ := h
  exact ⟨p, e, s _ _ f⟩
theorem wdTk {H H' : Hp} (s : TK H H') {us : List V} {js : List Wd} (h : All2 (WdV H) us js) : All2 (WdV H') us js := h.mono fun _ _ g => g.tk s
def WsV (H : Hp) (v : V) (ws : List Wd) : Prop := ∃ p us, v = .ref p ∧ H p = some (.tup us) ∧ All2 (WdV H) us ws
theorem WsV.tk {H H' : Hp} {v : V} {ws : List Wd} (h : WsV H v ws) (s : TK H H') : WsV H' v ws := by
  obtain ⟨p, us, e, f, g⟩ := h
  exact ⟨p, us, e, s _ _ f, wdTk s g⟩
def BxV (H : Hp) (v : V) (b : Bx) : Prop := ∃ p us, v = .ref p ∧ H p = some (.tup us) ∧ All2 (P2 H) us b
theorem BxV.tk {H H' : Hp} {v : V} {b : Bx} (h : BxV H v b) (s : TK H H') : BxV H' v b := by
  obtain ⟨p, us, e, f, g⟩ := h
  exact ⟨p, us, e, s _ _ f, p2Tk s g⟩
def SnV (H : Hp) (v : V) (s : Sn) : Prop := T3 H v s.1 s.2.1 s.2.2
theorem snTk {H H' : Hp} (s : TK H H') {us : List V} {js : List Sn} (h : All2 (SnV H) us js) : All2 (SnV H') us js := h.mono fun _ _ g => T3.tk g s
theorem UVs.tk {H H' : Hp} (s : TK H H') : ∀ {vs : List V} {as : List Unk}, UVs H vs as → UVs H' vs as
  | _, _, .nil => .nil
  | _, _, .cons ⟨p, e, f⟩ t => .cons ⟨p, e, s _ _ f⟩ (t.tk s)
theorem atI_nat' {i : Nat} {xs : List V} {x : V} (h : xs[i]? = some x) : atI xs (i : Int) = some x := atI_nat h
theorem len4 {a b c d : V} : ([a, b, c, d] : List V).length ≤ sizeLine := by rw [sizeLine_eq]; show 4 ≤ _; omega
theorem len5 {a b c d e : V} : ([a, b, c, d, e] : List V).length ≤ sizeLine := by rw [sizeLine_eq]; show 5 ≤ _; omega
theorem len1 {a : V} : ([a] : List V).length ≤ sizeLine := by rw [sizeLine_eq]; show 1 ≤ _; omega
theorem lk_w (a b c : V) : List.lookup ("wishes" : Str) ([("unknowns", a), ("wishes", b), ("goal", c)] : List (Str × V)) = some b := by rfl
/-- the window at a number -/
theorem wd_at {H : Hp} {us : List V} {ws : List Wd} (h : All2 (WdV H) us ws) {k : Nat} (hk : k < ws.length) : ∃ p, us[k]? = some (.ref p) ∧ H p = some (.tup [.int (lo ws k), .int (hi ws k), .int (ln ws k), .int (nd ws k)]) := by
  obtain ⟨v, e, p, rfl, hp⟩ := h.at2 (List.getElem?_eq_getElem hk)
  refine ⟨p, e, ?_⟩
  unfold lo hi ln nd
  rw [gW_at hk]
  exact hp
section
variable {P : Program} {w : World} {K : PySem.W.Frag} {mg : Str → Option Value} {base : Heap} {aW aT : Addr} {es : Array DictEntry} {nn : Nat}
abbrev s_size_of : Stmt := topS 8
abbrev n_size_of : List Str := ["wish"]
theorem sc_size_of : FnScope n_size_of ["wish"] (defScope s_size_of) := ⟨rfl, rfl, rfl, by decide +kernel, rfl, by decide +kernel, by decide +kernel⟩
def spSize : Sp := fun vs H Q _ => ∃ (v : V) (x : Wish), vs = [v] ∧ WV H v x ∧ x.isJ = true ∧ Q (.int x.size) H
theorem ok_size_of {f : Addr} {fd : FuncData} (F : Fun K "size_of" "size_of" s_size_of f fd) : FnOk P w K mg base CX0 1 f fd ["wish"] spSize := by
  refine F.ok sc_size_of (fun vs H Q E h => ?_) (fun cdv A outer s H vs Q E hr h => ?_)
  · obtain ⟨v, x, rfl, _⟩ := h
    rfl
  · obtain ⟨v, x, rfl, h, hj, q⟩ := h
    refine ⟨_, (pss_one (ps_ret (pe_ifExp (pt_cmpR op_eq (pe_ix ix_tup (pv 0) pe_int (fun _ _ => rfl)) pe_str (nomark _)) pe_int (pe_ix ix_tup (pv 0) pe_int (fun _ _ => rfl))))), ?_⟩
    cases x with
    | unlike a => cases hj
    | bench js =>
      obtain ⟨p, u, us, rfl, hp, _⟩ := h
      exact ⟨_, rfl, p, _, 0, _, rfl, rfl, sq_tup hp, rfl, rfl, _, rfl, iteT q⟩
    | room js z =>
      obtain ⟨p, u, us, rfl, hp, _⟩ := h
      exact ⟨_, rfl, p, _, 0, _, rfl, rfl, sq_tup hp, rfl, rfl, _, rfl, iteF ⟨_, rfl, p, _, 2, _, rfl, rfl, sq_tup hp, rfl, q⟩⟩
abbrev s_jobs_of : Stmt := topS 7
abbrev n_jobs_of : List Str := ["wish", "place", "length"]
theorem sc_jobs_of : FnScope n_jobs_of ["wish"] (defScope s_jobs_of) := ⟨rfl, rfl, rfl, by decide +kernel, rfl, by decide +kernel, by decide +kernel⟩
def spJobsOf : Sp := fun vs H Q _ => ∃ (v : V) (x : Wish) (n : Nat), vs = [v] ∧ WV H v x ∧ x.isJ = true ∧ WishOk n x ∧ ∀ p us H', Same H H' → H' p = some (.tup us) → All2 (JV H') us x.jobs → Q (.ref p) H'
theorem ok_jobs_of {f : Addr} {fd : FuncData} (F : Fun K "jobs_of" "jobs_of" s_jobs_of f fd) (T : Txt K mg w aW aT es nn) : FnOk P w K mg base CX0 1 f fd ["wish"] spJobsOf := by
  refine F.ok sc_jobs_of (fun vs H Q E h => ?_) (fun cdv A outer s0 H vs Q E hr h => ?_)
  · obtain ⟨v, x, n, rfl, _⟩ := h
    rfl
  · obtain ⟨v, x, n, rfl, h, hJ, ok, q⟩ := h
    refine ⟨_, (pss_cons (ps_if (pt_cmpR op_eq (pe_ix ix_tup (pv 0) pe_int (fun _ _ => rfl)) pe_str (nomark _)) (pss_one (ps_ret (pe_callTy call_tuple_of (by rfl) T.b_tuple (by decide +kernel) (pa_cons (pe_lc (own := [("place", 1), ("length", 2)]) (g := (gTup K 2 (gCons (gName 1) (gCons (gName 2) gNil)))) rfl sc_jobs_of.nd (pi_tup (pe_ix ix_tup (pv 0) pe_int (fun _ _ => rfl))) (blkOk_by (N := n_jobs_of) (sc := defScope s_jobs_of) (by decide +kernel)) (fun _ _ _ _ _ => (pg_tup rfl (pgs_cons (pg_name (i := 1) sc_jobs_of.nd rfl (.inl rfl)) (pgs_cons (pg_name (i := 2) sc_jobs_of.nd rfl (.inl rfl)) pgs_nil)))) (fun _ _ _ _ _ => pts_nil) (fun _ _ _ _ _ => (pe_tup (pa_cons (pv 1) (pa_cons (pv 2) (pa_cons pe_int pa_nil)))))) pa_nil)))) pss_nil)
      (pss_one (ps_ret (pe_ix ix_tup (pv 0) pe_int (fun _ _ => rfl))))), ?_⟩
    cases x with
    | unlike a => cases hJ
    | room js z =>
      obtain ⟨p, u, us, rfl, hp, hu, a⟩ := h
      exact ⟨_, rfl, p, _, 0, _, rfl, rfl, sq_tup hp, rfl, rfl, _, rfl, iteF ⟨_, rfl, p, _, 1, _, rfl, rfl, sq_tup hp, rfl, q _ _ _ (Same.refl _) hu a⟩⟩
    | bench js =>
      obtain ⟨p, pj, us, rfl, hp, hpj, lv⟩ := h
      have ok : WJ n 1 js := ok
      have few' : js.length ≤ 100 := Nat.le_trans ok.few (by decide)
      refine ⟨_, rfl, p, _, 0, _, rfl, rfl, sq_tup hp, rfl, rfl, _, rfl, iteT ?_⟩
      refine ⟨_, rfl, p, _, 1, _, rfl, rfl, sq_tup hp, rfl, pj, rfl, ⟨_, sq_tup hpj⟩, fun D nD => ?_⟩
      refine lc_tup (K := K) (a := pj) (xs := us) (fun i H' => ∃ vs, H' D = some (.lst vs) ∧ All2 (JV H') vs (js.take i) ∧ Same H H') ⟨[], upd_same, .nil, same_upd nD⟩ (fun i H' _ h => by obtain ⟨_, _, _, sm⟩ := h; exact sq_tup (sm _ _ hpj)) ?_ ?_
      · rintro i x H2 hx ⟨vs, hD, fv, sm⟩
        obtain ⟨j, hj, pj', rfl, hpj'⟩ := lv.at_ hx
        have li : i < js.length := (List.getElem?_eq_some_iff.mp hj).1
        have mj := List.mem_of_getElem? hj
        have e1 : j.2.2 = 1 := by have := ok.ok.nd1 j mj; have := ok.ok.ndz j mj; omega
        refine ⟨pj', _, rfl, sq_tup (sm _ _ hpj'), rfl, _, _, rfl, _, _, rfl, rfl, rfl, ?_⟩
        refine ⟨_, rfl, _, rfl, len3, fun t nt => ?_⟩
        have k3 := same_upd (o := .tup [.int j.1, .int j.2.1, .int 1]) nt
        have et : upd H2 t (.tup [.int j.1, .int j.2.1, .int 1]) t = some (.tup [.int j.1, .int j.2.1, .int j.2.2]) := by rw [e1]; exact upd_same
        have hD3 := k3 _ _ hD
        show ∃ _, _
        generalize upd H2 t (.tup [.int j.1, .int j.2.1, .int 1]) = H3 at *
        refine ⟨_, hD3, (by rw [fv.len, List.length_take]; exact small1000 (by omega)), vs ++ [.ref t], upd_same, ?_, same_at (sm.trans k3) nD⟩
        rw [take_one hj]
        exact jsTk (TK.put hD3) ((jsTk (TK.of k3) fv).app ⟨t, rfl, et⟩)
      · rintro H2 ⟨vs, hD, fv, sm⟩
        rw [lv.len, List.take_length] at fv
        refine ⟨D, _, rfl, .inl ⟨sq_lst hD, fun t nt => ?_⟩⟩
        have k3 := same_upd (o := .tup vs) nt
        exact q t vs _ (sm.trans k3) upd_same (jsTk (TK.of k3) fv)
abbrev s_job_windows : Stmt := topS 9
abbrev n_job_windows : List Str := ["task", "k", "box", "jobs", "place", "length", "need"]
theorem sc_job_windows : FnScope n_job_windows ["task", "k", "box"] (defScope s_job_windows) := ⟨rfl, rfl, rfl, by decide +kernel, rfl, by decide +kernel, by decide +kernel⟩
/-- a task's wish at k with a box -/
structure TwB (C : Addr) (H : Hp) (v b : V) (k : Nat) (n : Nat) (x : Wish) (bx : Bx) : Prop where
  tv : ∃ ul wl goal, TaskV C H v ul wl goal ∧ wl[k]? = some x ∧ n = ul.length
  ok : WishOk n x
  j : x.isJ = true
  bv : BxV H b bx
  bl : bx.length = n
def spWin (C : Addr) : Sp := fun vs H Q _ => ∃ (v b : V) (k n : Nat) (x : Wish) (bx : Bx), vs = [v, .int k, b] ∧ TwB C H v b k n x bx ∧ ∀ p us H', Same H H' → H' p = some (.tup us) → All2 (WdV H') us (wsOf x.jobs bx) → Q (.ref p) H'
theorem ok_job_windows {f C : Addr} {fd : FuncData} (F : Fun K "job_windows" "job_windows" s_job_windows f fd) (T : Txt K mg w aW aT es nn) (cc : CC K C) (c_jobs_of : Cal P w K mg base 1 "jobs_of" spJobsOf []) : FnOk P w K mg base CX0 2 f fd ["task", "k", "box"] (spWin C) := by
  refine F.ok sc_job_windows (fun vs H Q E h => ?_) (fun cdv A outer s0 H vs Q E hr h => ?_)
  · obtain ⟨v, b, k, n, x, bx, rfl, _⟩ := h
    rfl
  · obtain ⟨v, b, k, n, y, bx, rfl, ⟨⟨ul, wl, goal, ⟨x, dx, pu, pw, pg, us, ws, rfl, hx, hpu, uv, hpw, wv, hpg⟩, hk, en⟩, ok, hJ, ⟨pb, bs, rfl, hpb, bv⟩, bl⟩, q⟩ := h
    obtain ⟨vw, hwk, wvk⟩ := wv.at2 hk
    have wj := ok.wj hJ
    have few := wj.few
    refine ⟨_, (pss_cons (ps_set (i := 3) sc_job_windows.nd rfl (.inl rfl) (pe_c c_jobs_of hr (by decide) (by rfl) (pa_cons (pe_ix ix_tup (pe_fld (pv 0) (by rfl)) (pv 1) (fun _ _ => rfl)) pa_nil)))
      (pss_one (ps_ret (pe_callTy call_tuple_of (by rfl) T.b_tuple (by decide +kernel) (pa_cons (pe_lc (own := [("place", 4), ("length", 5), ("need", 6)]) (g := (gTup K 3 (gCons (gName 4) (gCons (gName 5) (gCons (gName 6) gNil))))) rfl sc_job_windows.nd (pi_tup (pv 3)) (blkOk_by (N := n_job_windows) (sc := defScope s_job_windows) (by decide +kernel)) (fun _ _ _ _ _ => (pg_tup rfl (pgs_cons (pg_name (i := 4) sc_job_windows.nd rfl (.inl rfl)) (pgs_cons (pg_name (i := 5) sc_job_windows.nd rfl (.inl rfl)) (pgs_cons (pg_name (i := 6) sc_job_windows.nd rfl (.inl rfl)) pgs_nil))))) (fun _ _ _ _ _ => pts_nil) (fun _ _ _ _ _ => (pe_tup (pa_cons (pe_ix (r := rIxT K) ix_tup (pe_ix (r := rIxT K) ix_tup (pv 2) (pv 4) (fun _ _ => rfl)) pe_int (fun _ _ => rfl)) (pa_cons (pe_ix (r := rIxT K) ix_tup (pe_ix (r := rIxT K) ix_tup (pv 2) (pv 4) (fun _ _ => rfl)) pe_int (fun _ _ => rfl)) (pa_cons (pv 5) (pa_cons (pv 6) pa_nil))))))) pa_nil))))), ?_⟩
    refine ⟨_, rfl, x, C, dx, _, _, rfl, hx, cc.cl, cc.nw, lk_w _ _ _, _, rfl, pw, _, _, _, rfl, rfl, sq_tup hpw, atI_nat hwk, ?_⟩
    refine ⟨_, y, n, rfl, wvk, hJ, ok, fun pj js' H1 s1 hpj lv => ?_⟩
    refine ⟨_, rfl, pj, rfl, ⟨_, sq_tup hpj⟩, fun D nD => ?_⟩
    refine lc_tup (K := K) (a := pj) (xs := js') (fun i H' => ∃ vs, H' D = some (.lst vs) ∧ All2 (WdV H') vs (wsOf (y.jobs.take i) bx) ∧ Same H1 H') ⟨[], upd_same, .nil, same_upd nD⟩ (fun i H' _ h => by obtain ⟨_, _, _, sm⟩ := h; exact sq_tup (sm _ _ hpj)) ?_ ?_
    · rintro i v1 H2 hy ⟨vs, hD, fv, sm⟩
      obtain ⟨j, hj, pj', rfl, hpj'⟩ := lv.at_ hy
      have mj := List.mem_of_getElem? hj
      have li : i < y.jobs.length := (List.getElem?_eq_some_iff.mp hj).1
      have pl := wj.ok.pl j mj
      obtain ⟨vb, hba, pr, rfl, hpr⟩ := bv.at2 (List.getElem?_eq_getElem (by omega : j.1 < bx.length))
      have ebx : bx[j.1]'(by omega) = bxAt bx j.1 := by unfold bxAt; rw [List.getD_eq_getElem?_getD, List.getElem?_eq_getElem]; rfl
      rw [ebx] at hpr
      have s02 := s1.trans sm
      refine ⟨pj', _, rfl, sq_tup (sm _ _ hpj'), rfl, _, _, rfl, _, _, rfl, _, _, rfl, rfl, rfl, ?_⟩
      refine ⟨_, rfl, _, rfl, pb, _, _, _, rfl, rfl, sq_tup (s02 _ _ hpb), atI_nat hba, pr, _, 0, _, rfl, rfl, sq_tup (s02 _ _ hpr), rfl, ?_⟩
      refine ⟨_, rfl, _, rfl, pb, _, _, _, rfl, rfl, sq_tup (s02 _ _ hpb), atI_nat hba, pr, _, 1, _, rfl, rfl, sq_tup (s02 _ _ hpr), rfl, ?_⟩
      refine ⟨_, rfl, _, rfl, len4, fun t nt => ?_⟩
      have k3 := same_upd (o := .tup [.int (bxAt bx j.1).1, .int (bxAt bx j.1).2, .int j.2.1, .int j.2.2]) nt
      have et : upd H2 t (.tup [.int (bxAt bx j.1).1, .int (bxAt bx j.1).2, .int j.2.1, .int j.2.2]) t = some (.tup [.int (bxAt bx j.1).1, .int (bxAt bx j.1).2, .int j.2.1, .int j.2.2]) := upd_same
      have hD3 := k3 _ _ hD
      generalize upd H2 t (.tup [.int (bxAt bx j.1).1, .int (bxAt bx j.1).2, .int j.2.1, .int j.2.2]) = H3 at *
      refine ⟨_, hD3, (by rw [fv.len, ws_len, List.length_take]; exact small1000 (by omega)), vs ++ [.ref t], upd_same, ?_, same_at (sm.trans k3) nD⟩
      rw [take_one hj]
      unfold wsOf at fv ⊢
      rw [List.map_append]
      exact wdTk (TK.put hD3) ((wdTk (TK.of k3) fv).app ⟨t, rfl, et⟩)
    · rintro H2 ⟨vs, hD, fv, sm⟩
      rw [lv.len, List.take_length] at fv
      refine ⟨D, _, rfl, .inl ⟨sq_lst hD, fun t nt => ?_⟩⟩
      have k3 := same_upd (o := .tup vs) nt
      exact q t vs _ ((s1.trans sm).trans k3) upd_same (wdTk (TK.of k3) fv)
abbrev s_end_of : Stmt := topS 10
abbrev n_end_of : List Str := ["window"]
theorem sc_end_of : FnScope n_end_of ["window"] (defScope s_end_of) := ⟨rfl, rfl, rfl, by decide +kernel, rfl, by decide +kernel, by decide +kernel⟩
def spEnd : Sp := fun vs H Q _ => ∃ (v : V) (d : Wd), vs = [v] ∧ WdV H v d ∧ Q (.int (d.2.1 + d.2.2.1)) H
theorem ok_end_of {f : Addr} {fd : FuncData} (F : Fun K "end_of" "end_of" s_end_of f fd) : FnOk P w K mg base CX0 1 f fd ["window"] spEnd := by
  refine F.ok sc_end_of (fun vs H Q E h => ?_) (fun cdv A outer s H vs Q E hr h => ?_)
  · obtain ⟨v, x, rfl, _⟩ := h
    rfl
  · obtain ⟨v, x, rfl, ⟨p, rfl, hp⟩, q⟩ := h
    refine ⟨_, (pss_one (ps_ret (pe_op op_add (pe_ix ix_tup (pv 0) pe_int (fun _ _ => rfl)) (pe_ix ix_tup (pv 0) pe_int (fun _ _ => rfl))))), ?_⟩
    exact ⟨_, rfl, p, _, 1, _, rfl, rfl, sq_tup hp, rfl, _, rfl, p, _, 2, _, rfl, rfl, sq_tup hp, rfl, _, _, rfl, rfl, q⟩
abbrev s_work_of : Stmt := topS 11
abbrev n_work_of : List Str := ["window"]
theorem sc_work_of : FnScope n_work_of ["window"] (defScope s_work_of) := ⟨rfl, rfl, rfl, by decide +kernel, rfl, by decide +kernel, by decide +kernel⟩
def spWork : Sp := fun vs H Q _ => ∃ (v : V) (d : Wd), vs = [v] ∧ WdV H v d ∧ (0 ≤ d.2.2.1 ∧ d.2.2.1 ≤ 1000000) ∧ Q (.int (d.2.2.1 * d.2.2.2)) H
theorem ok_work_of {f : Addr} {fd : FuncData} (F : Fun K "work_of" "work_of" s_work_of f fd) : FnOk P w K mg base CX0 1 f fd ["window"] spWork := by
  refine F.ok sc_work_of (fun vs H Q E h => ?_) (fun cdv A outer s H vs Q E hr h => ?_)
  · obtain ⟨v, x, rfl, _⟩ := h
    rfl
  · obtain ⟨v, x, rfl, ⟨p, rfl, hp⟩, ⟨n1, n2⟩, q⟩ := h
    refine ⟨_, (pss_one (ps_ret (pe_op op_mul (pe_ix ix_tup (pv 0) pe_int (fun _ _ => rfl)) (pe_ix ix_tup (pv 0) pe_int (fun _ _ => rfl))))), ?_⟩
    exact ⟨_, rfl, p, _, 2, _, rfl, rfl, sq_tup hp, rfl, _, rfl, p, _, 3, _, rfl, rfl, sq_tup hp, rfl, _, _, rfl, rfl, .inl ⟨by omega, by omega⟩, q⟩
abbrev s_backwards : Stmt := topS 12
abbrev n_backwards : List Str := ["windows", "low", "high", "length", "need"]
theorem sc_backwards : FnScope n_backwards ["windows"] (defScope s_backwards) := ⟨rfl, rfl, rfl, by decide +kernel, rfl, by decide +kernel, by decide +kernel⟩
def spBack : Sp := fun vs H Q _ => ∃ (v : V) (ws : List Wd), vs = [v] ∧ WsV H v ws ∧ ws.length ≤ 100 ∧ ∀ p us H', Same H H' → H' p = some (.tup us) → All2 (WdV H') us (bw ws) → Q (.ref p) H'
theorem ok_backwards {f : Addr} {fd : FuncData} (F : Fun K "backwards" "backwards" s_backwards f fd) (T : Txt K mg w aW aT es nn) : FnOk P w K mg base CX0 1 f fd ["windows"] spBack := by
  refine F.ok sc_backwards (fun vs H Q E h => ?_) (fun cdv A outer s H vs Q E hr h => ?_)
  · obtain ⟨v, ws, rfl, _⟩ := h
    rfl
  · obtain ⟨v, ws, rfl, ⟨pj, us, rfl, hpj, lv⟩, few, q⟩ := h
    refine ⟨_, (pss_one (ps_ret (pe_callTy call_tuple_of (by rfl) T.b_tuple (by decide +kernel) (pa_cons (pe_lc (own := [("low", 1), ("high", 2), ("length", 3), ("need", 4)]) (g := (gTup K 4 (gCons (gName 1) (gCons (gName 2) (gCons (gName 3) (gCons (gName 4) gNil)))))) rfl sc_backwards.nd (pi_tup (pv 0)) (blkOk_by (N := n_backwards) (sc := defScope s_backwards) (by decide +kernel)) (fun _ _ _ _ _ => (pg_tup rfl (pgs_cons (pg_name (i := 1) sc_backwards.nd rfl (.inl rfl)) (pgs_cons (pg_name (i := 2) sc_backwards.nd rfl (.inl rfl)) (pgs_cons (pg_name (i := 3) sc_backwards.nd rfl (.inl rfl)) (pgs_cons (pg_name (i := 4) sc_backwards.nd rfl (.inl rfl)) pgs_nil)))))) (fun _ _ _ _ _ => pts_nil) (fun _ _ _ _ _ => (pe_tup (pa_cons (pe_op op_sub (pe_un un_neg (pv 2)) (pv 3)) (pa_cons (pe_op op_sub (pe_un un_neg (pv 1)) (pv 3)) (pa_cons (pv 3) (pa_cons (pv 4) pa_nil))))))) pa_nil)))), ?_⟩
    refine ⟨_, rfl, pj, rfl, ⟨_, sq_tup hpj⟩, fun D nD => ?_⟩
    refine lc_tup (K := K) (a := pj) (xs := us) (fun i H' => ∃ vs, H' D = some (.lst vs) ∧ All2 (WdV H') vs (bw (ws.take i)) ∧ Same H H') ⟨[], upd_same, .nil, same_upd nD⟩ (fun i H' _ h => by obtain ⟨_, _, _, sm⟩ := h; exact sq_tup (sm _ _ hpj)) ?_ ?_
    · rintro i v1 H2 hy ⟨vs, hD, fv, sm⟩
      obtain ⟨d, hd, pj', rfl, hpj'⟩ := lv.at_ hy
      have li : i < ws.length := (List.getElem?_eq_some_iff.mp hd).1
      refine ⟨pj', _, rfl, sq_tup (sm _ _ hpj'), rfl, _, _, rfl, _, _, rfl, _, _, rfl, _, _, rfl, rfl, rfl, ?_⟩
      refine ⟨_, rfl, _, rfl, _, rfl, _, _, rfl, rfl, _, rfl, _, rfl, _, rfl, _, _, rfl, rfl, _, rfl, _, rfl, len4, fun t nt => ?_⟩
      have k3 := same_upd (o := .tup [.int (-d.2.1 - d.2.2.1), .int (-d.1 - d.2.2.1), .int d.2.2.1, .int d.2.2.2]) nt
      have et : upd H2 t (.tup [.int (-d.2.1 - d.2.2.1), .int (-d.1 - d.2.2.1), .int d.2.2.1, .int d.2.2.2]) t = some (.tup [.int (-d.2.1 - d.2.2.1), .int (-d.1 - d.2.2.1), .int d.2.2.1, .int d.2.2.2]) := upd_same
      have hD3 := k3 _ _ hD
      show ∃ _, _
      generalize upd H2 t (.tup [.int (-d.2.1 - d.2.2.1), .int (-d.1 - d.2.2.1), .int d.2.2.1, .int d.2.2.2]) = H3 at *
      refine ⟨_, hD3, (by rw [fv.len, bw_len, List.length_take]; exact small1000 (by omega)), vs ++ [.ref t], upd_same, ?_, same_at (sm.trans k3) nD⟩
      rw [take_one hd]
      unfold bw at fv ⊢
      rw [List.map_append]
      exact wdTk (TK.put hD3) ((wdTk (TK.of k3) fv).app ⟨t, rfl, et⟩)
    · rintro H2 ⟨vs, hD, fv, sm⟩
      rw [lv.len, List.take_length] at fv
      refine ⟨D, _, rfl, .inl ⟨sq_lst hD, fun t nt => ?_⟩⟩
      have k3 := same_upd (o := .tup vs) nt
      exact q t vs _ (sm.trans k3) upd_same (wdTk (TK.of k3) fv)
abbrev s_leaf_backwards : Stmt := topS 13
abbrev n_leaf_backwards : List Str := ["leaf"]
theorem sc_leaf_backwards : FnScope n_leaf_backwards ["leaf"] (defScope s_leaf_backwards) := ⟨rfl, rfl, rfl, by decide +kernel, rfl, by decide +kernel, by decide +kernel⟩
/-- a leaf of jobs -/
inductive Lf where
  | late (i o : Nat)
  | load (J : List Nat) (f l : Int)
  | full (J : List Nat) (m : Int)
def natJ (J : List Nat) : List V := J.map fun a : Nat => V.int (a : Int)
def LfV (k : Int) (H : Hp) (v : V) : Lf → Prop
  | .late i o => ∃ p, v = .ref p ∧ H p = some (.tup [.str "late", .int k, .int (i : Int), .int (o : Int)])
  | .load J f l => ∃ p j, v = .ref p ∧ H p = some (.tup [.str "load", .int k, .ref j, .int f, .int l]) ∧ H j = some (.tup (natJ J))
  | .full J m => ∃ p j, v = .ref p ∧ H p = some (.tup [.str "full", .int k, .ref j, .int m]) ∧ H j = some (.tup (natJ J))
theorem LfV.tk {k : Int} {H H' : Hp} {v : V} {L : Lf} (h : LfV k H v L) (s : TK H H') : LfV k H' v L := by
  cases L with
  | late i o => obtain ⟨p, e, h⟩ := h; exact ⟨p, e, s _ _ h⟩
  | load J f l => obtain ⟨p, j, e, h, g⟩ := h; exact ⟨p, j, e, s _ _ h, s _ _ g⟩
  | full J m => obtain ⟨p, j, e, h, g⟩ := h; exact ⟨p, j, e, s _ _ h, s _ _ g⟩
theorem LfV.ref {k : Int} {H : Hp} {v : V} {L : Lf} (h : LfV k H v L) : ∃ p, v = .ref p := by
  cases L with
  | late i o => obtain ⟨p, e, _⟩ := h; exact ⟨p, e⟩
  | load J f l => obtain ⟨p, j, e, _⟩ := h; exact ⟨p, e⟩
  | full J m => obtain ⟨p, j, e, _⟩ := h; exact ⟨p, e⟩
/-- the same leaf with time run backwards -/
def lfB : Lf → Lf
  | .late i o => .late i o
  | .load J f l => .load J (-l) (-f)
  | .full J m => .full J (-m - 1)
def spLb : Sp := fun vs H Q _ => ∃ (v : V) (k : Int) (L : Lf), vs = [v] ∧ LfV k H v L ∧ ∀ p H', Same H H' → LfV k H' (.ref p) (lfB L) → Q (.ref p) H'
theorem ok_leaf_backwards {f : Addr} {fd : FuncData} (F : Fun K "leaf_backwards" "leaf_backwards" s_leaf_backwards f fd) : FnOk P w K mg base CX0 1 f fd ["leaf"] spLb := by
  refine F.ok sc_leaf_backwards (fun vs H Q E h => ?_) (fun cdv A outer s H vs Q E hr h => ?_)
  · obtain ⟨v, k, L, rfl, _⟩ := h
    rfl
  · obtain ⟨v, k, L, rfl, h, q⟩ := h
    refine ⟨_, (pss_cons (ps_if (pt_cmpR op_eq (pe_ix ix_tup (pv 0) pe_int (fun _ _ => rfl)) pe_str (nomark _)) (pss_one (ps_ret (pe_op op_catT (pe_slice sl_tupA (pv 0) po_none (po_some pe_int)) (pe_tup (pa_cons (pe_un un_neg (pe_ix ix_tup (pv 0) pe_int (fun _ _ => rfl))) (pa_cons (pe_un un_neg (pe_ix ix_tup (pv 0) pe_int (fun _ _ => rfl))) pa_nil)))))) pss_nil)
      (pss_cons (ps_if (pt_cmpR op_eq (pe_ix ix_tup (pv 0) pe_int (fun _ _ => rfl)) pe_str (nomark _)) (pss_one (ps_ret (pe_op op_catT (pe_slice sl_tupA (pv 0) po_none (po_some pe_int)) (pe_tup (pa_cons (pe_op op_sub (pe_un un_neg (pe_ix ix_tup (pv 0) pe_int (fun _ _ => rfl))) pe_int) pa_nil))))) pss_nil)
      (pss_one (ps_ret (pv 0))))), ?_⟩
    cases L with
    | late a b =>
      obtain ⟨p, rfl, h⟩ := h
      refine ⟨_, rfl, p, _, 0, _, rfl, rfl, sq_tup h, rfl, rfl, _, rfl, iteF ?_⟩
      refine ⟨_, rfl, p, _, 0, _, rfl, rfl, sq_tup h, rfl, rfl, _, rfl, iteF ?_⟩
      exact ⟨_, rfl, q _ _ (Same.refl _) ⟨p, rfl, h⟩⟩
    | load J f1 l =>
      obtain ⟨p, j, rfl, h, hj⟩ := h
      refine ⟨_, rfl, p, _, 0, _, rfl, rfl, sq_tup h, rfl, rfl, _, rfl, iteT ?_⟩
      refine ⟨_, rfl, ?_⟩
      unfold tNoPart
      refine ⟨_, rfl, p, _, rfl, sq_tup h, (fun z => absurd z.2 (by show ¬ (3 : Nat) = 5; decide)), fun _ y ny => ?_⟩
      have k1 := same_upd (o := .tup (cutV [V.str "load", .int k, .ref j, .int f1, .int l] none (some 3))) ny
      have h1 := k1 _ _ h
      have ey : upd H y (.tup (cutV [V.str "load", .int k, .ref j, .int f1, .int l] none (some 3))) y = some (.tup (cutV [V.str "load", .int k, .ref j, .int f1, .int l] none (some 3))) := upd_same
      refine ⟨_, rfl, p, _, 4, _, rfl, rfl, sq_tup h1, rfl, _, rfl, _, rfl, p, _, 3, _, rfl, rfl, sq_tup h1, rfl, _, rfl, len2, fun t nt => ?_⟩
      have k2 := same_upd (o := .tup [.int (-l), .int (-f1)]) nt
      refine ⟨y, t, _, _, rfl, rfl, sq_tup (k2 _ _ ey), sq_tup upd_same, (fun z => by cases z), by rw [sizeLine_eq]; show 5 ≤ _; omega, (fun z => by cases z), fun _ r nr => q r _ ((k1.trans k2).trans (same_upd nr)) ⟨r, j, rfl, upd_same, ((k1.trans k2).trans (same_upd nr)) _ _ hj⟩⟩
    | full J m =>
      obtain ⟨p, j, rfl, h, hj⟩ := h
      refine ⟨_, rfl, p, _, 0, _, rfl, rfl, sq_tup h, rfl, rfl, _, rfl, iteF ?_⟩
      refine ⟨_, rfl, p, _, 0, _, rfl, rfl, sq_tup h, rfl, rfl, _, rfl, iteT ?_⟩
      refine ⟨_, rfl, ?_⟩
      unfold tNoPart
      refine ⟨_, rfl, p, _, rfl, sq_tup h, (fun z => absurd z.2 (by show ¬ (3 : Nat) = 4; decide)), fun _ y ny => ?_⟩
      have k1 := same_upd (o := .tup (cutV [V.str "full", .int k, .ref j, .int m] none (some 3))) ny
      have h1 := k1 _ _ h
      have ey : upd H y (.tup (cutV [V.str "full", .int k, .ref j, .int m] none (some 3))) y = some (.tup (cutV [V.str "full", .int k, .ref j, .int m] none (some 3))) := upd_same
      refine ⟨_, rfl, p, _, 3, _, rfl, rfl, sq_tup h1, rfl, _, rfl, _, _, rfl, rfl, len1, fun t nt => ?_⟩
      have k2 := same_upd (o := .tup [.int (-m - 1)]) nt
      refine ⟨y, t, _, _, rfl, rfl, sq_tup (k2 _ _ ey), sq_tup upd_same, (fun z => by cases z), by rw [sizeLine_eq]; show 4 ≤ _; omega, (fun z => by cases z), fun _ r nr => q r _ ((k1.trans k2).trans (same_upd nr)) ⟨r, j, rfl, upd_same, ((k1.trans k2).trans (same_upd nr)) _ _ hj⟩⟩
end
end M60

namespace M60
open M12 (Sn ld net Pos ld_nn cov lb lb_le lb_step lb_nil)
/-! ### windows moved and stretched -/
structure Sim (ws ws' : List Wd) (z z' c d e : Int) : Prop where
  len : ws'.length = ws.length
  lo_ : ∀ k, k < ws.length → lo ws' k = c * lo ws k + d
  hi_ : ∀ k, k < ws.length → hi ws' k = c * hi ws k + d
  ln_ : ∀ k, k < ws.length → ln ws' k = c * ln ws k
  nd_ : ∀ k, k < ws.length → nd ws' k = e * nd ws k
  zz : z' = e * z
  c1 : 1 ≤ c
  e1 : 1 ≤ e
  cz : c = 1 ∨ z = 1
theorem lt2 {e x y : Int} (h : 1 ≤ e) : e * x < e * y ↔ x < y := Int.mul_lt_mul_left (by omega)
theorem le2 {e x y : Int} (h : 1 ≤ e) : e * x ≤ e * y ↔ x ≤ y := Int.mul_le_mul_left (by omega)
theorem mapMx {c d : Int} (h : 1 ≤ c) (l : List Int) : mxO (l.map fun v => c * v + d) = (mxO l).map fun v => c * v + d := by
  refine isMx_one (mxO_is _) (m := l.map fun v => c * v + d) ?_ fun _ => Iff.rfl
  have g := mxO_is l
  cases e : mxO l with
  | none =>
    rw [e] at g
    have g : l = [] := g
    rw [g]; rfl
  | some m =>
    rw [e] at g
    obtain ⟨g1, g2⟩ := g
    refine ⟨List.mem_map.mpr ⟨m, g1, rfl⟩, fun x hx => ?_⟩
    obtain ⟨v, hv, rfl⟩ := List.mem_map.mp hx
    have := (le2 h).mpr (g2 v hv)
    show c * v + d ≤ c * m + d
    omega
section
variable {ws ws' : List Wd} {z z' c d e : Int}
theorem Sim.en (s : Sim ws ws' z z' c d e) {k : Nat} (hk : k < ws.length) : en ws' k = c * en ws k + d := by
  unfold M60.en
  rw [s.hi_ k hk, s.ln_ k hk, Int.mul_add]; omega
theorem Sim.wk (s : Sim ws ws' z z' c d e) {k : Nat} (hk : k < ws.length) : wk ws' k = c * e * wk ws k := by
  unfold M60.wk
  rw [s.ln_ k hk, s.nd_ k hk]
  rw [Int.mul_assoc c e, Int.mul_assoc c, Int.mul_left_comm (M60.ln ws k)]
theorem Sim.ce (s : Sim ws ws' z z' c d e) : 1 ≤ c * e := Int.mul_le_mul (a := 1) (b := 1) s.c1 s.e1 (by decide) (by have := s.c1; omega)
theorem Sim.lsw (s : Sim ws ws' z z' c d e) : ∀ {l : List Nat}, (∀ k ∈ l, k < ws.length) → ls (M60.wk ws') l = c * e * ls (M60.wk ws) l
  | [], _ => by simp [ls]
  | a :: r, h => by
    simp only [ls]
    rw [s.wk (h a (List.mem_cons_self ..)), s.lsw fun k hk => h k (List.mem_cons_of_mem _ hk), Int.mul_add]
theorem Sim.lsn (s : Sim ws ws' z z' c d e) : ∀ {l : List Nat}, (∀ k ∈ l, k < ws.length) → ls (M60.nd ws') l = e * ls (M60.nd ws) l
  | [], _ => by simp [ls]
  | a :: r, h => by
    simp only [ls]
    rw [s.nd_ a (h a (List.mem_cons_self ..)), s.lsn fun k hk => h k (List.mem_cons_of_mem _ hk), Int.mul_add]
theorem Sim.ord (s : Sim ws ws' z z' c d e) (f : Int) : ordF ws' (c * f + d) = ordF ws f := by
  have ein : inF ws' (c * f + d) = inF ws f := by
    unfold inF
    rw [s.len]
    refine List.filter_congr fun k hk => ?_
    rw [s.lo_ k (List.mem_range.mp hk)]
    refine decide_eq_decide.mpr ?_
    have := le2 (x := f) (y := M60.lo ws k) s.c1
    omega
  refine (ord_is (l := ordF ws f) ?_ ?_).symm
  · rw [ein]; exact (fold_ok ws (inF ws f)).1
  · refine List.Pairwise.imp_of_mem (fun {a b} ha hb h => ?_) (fold_ok ws (inF ws f)).2
    have la := (ord_mem.mp ha).1
    have lb := (ord_mem.mp hb).1
    unfold leE at *
    rw [decide_eq_true_eq] at *
    rw [s.en la, s.en lb]
    rcases h with h | ⟨h, g⟩
    · exact .inl (by have := (lt2 (x := M60.en ws a) (y := M60.en ws b) s.c1).mpr h; omega)
    · exact .inr ⟨by rw [h], g⟩
theorem Sim.lateP (s : Sim ws ws' z z' c d e) {i j : Nat} (hi_ : i < ws.length) (hj : j < ws.length) : M60.lateP ws' z' i j ↔ M60.lateP ws z i j := by
  unfold M60.lateP
  rw [s.zz, s.nd_ i hi_, s.nd_ j hj, s.hi_ i hi_, s.hi_ j hj, s.lo_ i hi_, s.lo_ j hj, s.ln_ i hi_, s.ln_ j hj, ← Int.mul_add, lt2 s.e1]
  have a := lt2 (x := M60.hi ws j) (y := M60.lo ws i + M60.ln ws i) s.c1
  have b := lt2 (x := M60.hi ws i) (y := M60.lo ws j + M60.ln ws j) s.c1
  rw [Int.mul_add] at a b
  constructor
  · rintro ⟨h1, h2, h3⟩; exact ⟨h1, a.mp (by omega), b.mp (by omega)⟩
  · rintro ⟨h1, h2, h3⟩; have := a.mpr h2; have := b.mpr h3; exact ⟨h1, by omega, by omega⟩
theorem bool_iff {a b : Bool} (h : a = true ↔ b = true) : a = b := by
  cases a <;> cases b
  · rfl
  · exact absurd (h.mpr rfl) (by decide)
  · exact absurd (h.mp rfl) (by decide)
  · rfl
theorem Sim.late (s : Sim ws ws' z z' c d e) : lateB ws' z' = lateB ws z := by
  refine bool_iff ?_
  rw [late_iff, late_iff]
  constructor
  · rintro ⟨i, j, ij, hj, h⟩
    rw [s.len] at hj
    exact ⟨i, j, ij, hj, (s.lateP (by omega) hj).mp h⟩
  · rintro ⟨i, j, ij, hj, h⟩
    exact ⟨i, j, ij, by rw [s.len]; exact hj, (s.lateP (by omega) hj).mpr h⟩
theorem Sim.prod (s : Sim ws ws' z z' c d e) {a k : Nat} (ha : a < ws.length) (hk : k < ws.length) : z' * (M60.en ws' a - M60.lo ws' k) = c * e * (z * (M60.en ws a - M60.lo ws k)) := by
  rw [s.en ha, s.lo_ k hk, s.zz, show c * M60.en ws a + d - (c * M60.lo ws k + d) = c * (M60.en ws a - M60.lo ws k) by rw [Int.mul_sub]; omega]
  rw [Int.mul_assoc e z, Int.mul_left_comm z c, Int.mul_left_comm e c, Int.mul_assoc c e]
theorem Sim.load (s : Sim ws ws' z z' c d e) : loadB ws' z' = loadB ws z := by
  refine bool_iff ?_
  rw [load_iff, load_iff]
  constructor
  · rintro ⟨k, P, a, R, hk, ho, h⟩
    rw [s.len] at hk
    rw [s.lo_ k hk, s.ord] at ho
    have mem : ∀ x ∈ P ++ [a], x < ws.length := fun x hx => (ord_mem.mp (by rw [ho]; rcases List.mem_append.mp hx with h | h; exact List.mem_append_left _ h; exact List.mem_append_right _ (by rw [List.mem_singleton.mp h]; exact List.mem_cons_self ..))).1
    have ha := mem a (List.mem_append_right _ (List.mem_singleton.mpr rfl))
    rw [s.prod ha hk, s.lsw mem] at h
    exact ⟨k, P, a, R, hk, ho, (lt2 s.ce).mp h⟩
  · rintro ⟨k, P, a, R, hk, ho, h⟩
    have mem : ∀ x ∈ P ++ [a], x < ws.length := fun x hx => (ord_mem.mp (by rw [ho]; rcases List.mem_append.mp hx with h | h; exact List.mem_append_left _ h; exact List.mem_append_right _ (by rw [List.mem_singleton.mp h]; exact List.mem_cons_self ..))).1
    have ha := mem a (List.mem_append_right _ (List.mem_singleton.mpr rfl))
    refine ⟨k, P, a, R, by rw [s.len]; exact hk, by rw [s.lo_ k hk, s.ord]; exact ho, ?_⟩
    rw [s.prod ha hk, s.lsw mem]
    exact (lt2 s.ce).mpr h
theorem Sim.sure (s : Sim ws ws' z z' c d e) (c1 : c = 1) (m : Int) : sureL ws' (m + d) = sureL ws m := by
  unfold sureL
  rw [s.len]
  refine List.filter_congr fun k hk => ?_
  have hk := List.mem_range.mp hk
  unfold sureP
  rw [s.hi_ k hk, s.lo_ k hk, s.ln_ k hk, c1, Int.one_mul, Int.one_mul, Int.one_mul]
  refine decide_eq_decide.mpr ?_
  omega
theorem Sim.full (s : Sim ws ws' z z' c d e) (c1 : c = 1) : fullB ws' z' = fullB ws z := by
  refine bool_iff ?_
  rw [full_iff, full_iff]
  have e_ : ∀ k, k < ws.length → (z' < ls (M60.nd ws') (sureL ws' (M60.hi ws' k)) ↔ z < ls (M60.nd ws) (sureL ws (M60.hi ws k))) := fun k hk => by
    have : M60.hi ws' k = M60.hi ws k + d := by rw [s.hi_ k hk, c1]; omega
    rw [this, s.sure c1, s.lsn fun x hx => (sure_mem.mp hx).1, s.zz, lt2 s.e1]
  constructor
  · rintro ⟨k, hk, h⟩
    rw [s.len] at hk
    exact ⟨k, hk, (e_ k hk).mp h⟩
  · rintro ⟨k, hk, h⟩
    exact ⟨k, by rw [s.len]; exact hk, (e_ k hk).mpr h⟩
theorem Sim.leaf (s : Sim ws ws' z z' c d e) (room : Bool) (h : room = true → c = 1) : leafB room ws' z' = leafB room ws z := by
  unfold leafB
  rw [s.late, s.load]
  cases room with
  | true => rw [s.full (h rfl)]
  | false => rfl
theorem div_sim (s : Sim ws ws' z z' c d e) (z0 : 0 < z) (t : Int) : -(c * e * t) / z' = c * (-t / z) := by
  have e0 : 0 < e := by have := s.e1; omega
  rw [s.zz, show -(c * e * t) = e * (-(c * t)) by rw [Int.mul_comm c e, Int.mul_assoc, Int.mul_neg], Int.mul_ediv_mul_of_pos _ _ e0]
  rcases s.cz with h | h
  · rw [h, Int.one_mul, Int.one_mul]
  · rw [h, Int.ediv_one, Int.ediv_one, Int.mul_neg]
theorem mom_mem {ws : List Wd} {j : Nat} {m : Int} : m ∈ momL ws j ↔ m = lo ws j + ln ws j - 1 ∨ ∃ k, k < ws.length ∧ m = lo ws k + ln ws k - 1 := by
  unfold momL
  rw [List.mem_cons, List.mem_map]
  refine or_congr Iff.rfl ⟨fun ⟨w, hw, e⟩ => ?_, fun ⟨k, hk, e⟩ => ⟨gW ws k, by rw [gW_at hk]; exact List.getElem_mem hk, e.symm⟩⟩
  obtain ⟨k, hk, rfl⟩ := gW_mem hw
  exact ⟨k, hk, e.symm⟩
theorem Sim.over (s : Sim ws ws' z z' c d e) (c1 : c = 1) {j : Nat} (hj : j < ws.length) (m : Int) : overP ws' z' j (m + d) ↔ overP ws z j m := by
  unfold overP
  rw [s.sure c1, s.lsn fun x hx => (sure_mem.mp (List.mem_filter.mp hx).1).1, s.nd_ j hj, s.zz, ← Int.mul_add, lt2 s.e1]
theorem Sim.start (s : Sim ws ws' z z' c d e) (z0 : 0 < z) (room : Bool) (hr : room = true → c = 1) {j : Nat} (hj : j < ws.length) : mxO (startC room ws' z' j) = (mxO (startC room ws z j)).map fun v => c * v + d := by
  rw [← mapMx s.c1]
  refine mxO_cong fun v' => ?_
  unfold startC
  rw [List.map_append, List.map_append, List.mem_append, List.mem_append, List.mem_append, List.mem_append]
  refine or_congr (or_congr ?_ ?_) ?_
  · rw [late_mem, List.mem_map]
    have cond : ∀ o, o < ws.length → ((z' < M60.nd ws' j + M60.nd ws' o ∧ M60.hi ws' o < M60.lo ws' j + M60.ln ws' j) ↔ (z < M60.nd ws j + M60.nd ws o ∧ M60.hi ws o < M60.lo ws j + M60.ln ws j)) := fun o ho => by
      rw [s.zz, s.nd_ j hj, s.nd_ o ho, s.hi_ o ho, s.lo_ j hj, s.ln_ j hj, ← Int.mul_add, lt2 s.e1]
      have b := lt2 (x := M60.hi ws o) (y := M60.lo ws j + M60.ln ws j) s.c1
      rw [Int.mul_add] at b
      constructor
      · rintro ⟨h1, h2⟩; exact ⟨h1, b.mp (by omega)⟩
      · rintro ⟨h1, h2⟩; have := b.mpr h2; exact ⟨h1, by omega⟩
    constructor
    · rintro ⟨o, ho, ne, h1, h2, rfl⟩
      rw [s.len] at ho
      obtain ⟨g1, g2⟩ := (cond o ho).mp ⟨h1, h2⟩
      exact ⟨_, late_mem.mpr ⟨o, ho, ne, g1, g2, rfl⟩, by rw [s.lo_ o ho, s.ln_ o ho, Int.mul_add]; omega⟩
    · rintro ⟨v, hv, rfl⟩
      obtain ⟨o, ho, ne, h1, h2, rfl⟩ := late_mem.mp hv
      obtain ⟨g1, g2⟩ := (cond o ho).mpr ⟨h1, h2⟩
      exact ⟨o, by rw [s.len]; exact ho, ne, g1, g2, by rw [s.lo_ o ho, s.ln_ o ho, Int.mul_add]; omega⟩
  · rw [load_mem, List.mem_map]
    have mem : ∀ {f : Int} {P R : List Nat} {a : Nat}, ordF ws f = P ++ a :: R → ∀ x ∈ P ++ [a], x < ws.length := fun {f P R a} ho x hx => (ord_mem.mp (by rw [ho]; rcases List.mem_append.mp hx with h | h; exact List.mem_append_left _ h; exact List.mem_append_right _ (by rw [List.mem_singleton.mp h]; exact List.mem_cons_self ..))).1
    have val : ∀ (k : Nat) (t : Int), k < ws.length → M60.lo ws' k - -(c * e * t) / z' - M60.ln ws' j = c * (M60.lo ws k - -t / z - M60.ln ws j) + d := fun k t hk => by
      rw [div_sim s z0, s.lo_ k hk, s.ln_ j hj, Int.mul_sub, Int.mul_sub]; omega
    constructor
    · rintro ⟨k, P, a, R, hk, ho, hR, h, rfl⟩
      rw [s.len] at hk
      rw [s.lo_ k hk, s.ord] at ho
      have mm := mem ho
      have ha := mm a (List.mem_append_right _ (List.mem_singleton.mpr rfl))
      rw [s.prod ha hk, s.lsw mm, s.wk hj, ← Int.mul_add, lt2 s.ce] at h
      refine ⟨_, load_mem.mpr ⟨k, P, a, R, hk, ho, hR, h, rfl⟩, ?_⟩
      rw [s.lsw mm, s.wk hj, ← Int.mul_add, val k _ hk]
    · rintro ⟨v, hv, rfl⟩
      obtain ⟨k, P, a, R, hk, ho, hR, h, rfl⟩ := load_mem.mp hv
      have mm := mem ho
      have ha := mm a (List.mem_append_right _ (List.mem_singleton.mpr rfl))
      refine ⟨k, P, a, R, by rw [s.len]; exact hk, by rw [s.lo_ k hk, s.ord]; exact ho, hR, ?_, ?_⟩
      · rw [s.prod ha hk, s.lsw mm, s.wk hj, ← Int.mul_add, lt2 s.ce]; exact h
      · rw [s.lsw mm, s.wk hj, ← Int.mul_add, val k _ hk]
  · cases room with
    | false => simp
    | true =>
      have c1 := hr rfl
      have sh : ∀ k, k < ws.length → M60.lo ws' k + M60.ln ws' k = M60.lo ws k + M60.ln ws k + d := fun k hk => by rw [s.lo_ k hk, s.ln_ k hk, c1]; omega
      rw [if_pos rfl, if_pos rfl, full_mem, List.mem_map]
      constructor
      · rintro ⟨m, h1, h2, h3, rfl⟩
        have : m = (m - d) + d := by omega
        rw [this] at h3
        rw [sh j hj] at h2
        refine ⟨m - d + 1, full_mem.mpr ⟨m - d, mom_mem.mpr ?_, by omega, (s.over c1 hj _).mp h3, rfl⟩, by rw [c1]; omega⟩
        rcases mom_mem.mp h1 with h | ⟨k, hk, h⟩
        · rw [sh j hj] at h; exact .inl (by omega)
        · rw [s.len] at hk; rw [sh k hk] at h; exact .inr ⟨k, hk, by omega⟩
      · rintro ⟨v, hv, rfl⟩
        obtain ⟨m, h1, h2, h3, rfl⟩ := full_mem.mp hv
        refine ⟨m + d, mom_mem.mpr ?_, by rw [sh j hj]; omega, (s.over c1 hj _).mpr h3, by rw [c1]; omega⟩
        rcases mom_mem.mp h1 with h | ⟨k, hk, h⟩
        · exact .inl (by rw [sh j hj]; omega)
        · exact .inr ⟨k, by rw [s.len]; exact hk, by rw [sh k hk]; omega⟩
end
/-! ### time run backwards -/
section
variable {ws : List Wd} {z : Int} {k : Nat}
theorem bw_lo (hk : k < ws.length) : lo (bw ws) k = -hi ws k - ln ws k := by unfold lo hi ln; rw [bw_at hk]; rfl
theorem bw_hi (hk : k < ws.length) : hi (bw ws) k = -lo ws k - ln ws k := by unfold lo hi ln; rw [bw_at hk]; rfl
theorem bw_ln (hk : k < ws.length) : ln (bw ws) k = ln ws k := by unfold ln; rw [bw_at hk]; rfl
theorem bw_nd (hk : k < ws.length) : nd (bw ws) k = nd ws k := by unfold nd; rw [bw_at hk]; rfl
theorem bw_en (hk : k < ws.length) : en (bw ws) k = -lo ws k := by unfold en; rw [bw_hi hk, bw_ln hk]; omega
theorem bw_bw : bw (bw ws) = ws := by
  unfold bw
  rw [List.map_map]
  conv => rhs; rw [← List.map_id ws]
  refine List.map_congr_left fun w _ => ?_
  obtain ⟨a, b, c, d⟩ := w
  show ((_ : Int), (_ : Int), (_ : Int), (_ : Int)) = (a, b, c, d)
  show (-(-a - c) - c, -(-b - c) - c, c, d) = (a, b, c, d)
  rw [show -(-a - c) - c = a by omega, show -(-b - c) - c = b by omega]
theorem Sim.bw {ws ws' : List Wd} {z z' c d e : Int} (s : Sim ws ws' z z' c d e) : Sim (M60.bw ws) (M60.bw ws') z z' c (-d) e := by
  refine ⟨by rw [bw_len, bw_len, s.len], ?_, ?_, ?_, ?_, s.zz, s.c1, s.e1, s.cz⟩ <;> intro k hk <;> rw [bw_len] at hk <;> have hk' : k < ws'.length := by rw [s.len]; exact hk
  · rw [bw_lo hk, bw_lo hk', s.hi_ k hk, s.ln_ k hk, Int.mul_sub, Int.mul_neg]; omega
  · rw [bw_hi hk, bw_hi hk', s.lo_ k hk, s.ln_ k hk, Int.mul_sub, Int.mul_neg]; omega
  · rw [bw_ln hk, bw_ln hk', s.ln_ k hk]
  · rw [bw_nd hk, bw_nd hk', s.nd_ k hk]
theorem late_bw : lateB (bw ws) z = lateB ws z := by
  have e : ∀ i j, i < ws.length → j < ws.length → (lateP (bw ws) z i j ↔ lateP ws z i j) := fun i j hi_ hj => by
    unfold lateP
    rw [bw_nd hi_, bw_nd hj, bw_hi hi_, bw_hi hj, bw_lo hi_, bw_lo hj, bw_ln hi_, bw_ln hj]
    constructor <;> rintro ⟨h1, h2, h3⟩ <;> exact ⟨h1, by omega, by omega⟩
  refine bool_iff ?_
  rw [late_iff, late_iff]
  constructor
  · rintro ⟨i, j, ij, hj, h⟩
    rw [bw_len] at hj
    exact ⟨i, j, ij, hj, (e i j (by omega) hj).mp h⟩
  · rintro ⟨i, j, ij, hj, h⟩
    exact ⟨i, j, ij, by rw [bw_len]; exact hj, (e i j (by omega) hj).mpr h⟩
/-- the jobs that lie within a stretch of time -/
def inL (ws : List Wd) (f t : Int) : List Nat := (List.range ws.length).filter fun k => decide (f ≤ lo ws k ∧ en ws k ≤ t)
theorem inL_mem {f t : Int} : k ∈ inL ws f t ↔ k < ws.length ∧ f ≤ lo ws k ∧ en ws k ≤ t := by
  unfold inL
  rw [List.mem_filter, List.mem_range, decide_eq_true_eq]
theorem inL_nodup (f t : Int) : (inL ws f t).Nodup := List.nodup_range.filter _
theorem ls_same {f : Nat → Int} {n : Nat} {P Q : List Nat} (hp : P.Nodup) (hq : Q.Nodup) (lp : ∀ k ∈ P, k < n) (lq : ∀ k ∈ Q, k < n) (h : ∀ k, k < n → (k ∈ P ↔ k ∈ Q)) : ls f P = ls f Q := by
  rw [ls_sg f hp lp, ls_sg f hq lq]
  refine sg_cong fun k hk => ?_
  by_cases e : k ∈ P
  · rw [if_pos e, if_pos ((h k hk).mp e)]
  · rw [if_neg e, if_neg fun q => e ((h k hk).mpr q)]
theorem ls_more {f : Nat → Int} {n : Nat} {P Q : List Nat} (hp : P.Nodup) (hq : Q.Nodup) (lp : ∀ k ∈ P, k < n) (lq : ∀ k ∈ Q, k < n) (nn : ∀ k, k < n → 0 ≤ f k) (h : ∀ k, k < n → k ∈ P → k ∈ Q) : ls f P ≤ ls f Q := by
  rw [ls_sg f hp lp, ls_sg f hq lq]
  refine sg_le fun k hk => ?_
  by_cases e : k ∈ P
  · rw [if_pos e, if_pos (h k hk e)]; exact Int.le_refl _
  · rw [if_neg e]
    split
    · exact nn k hk
    · exact Int.le_refl _
theorem split_last (p : Nat → Bool) : ∀ (l : List Nat), (∃ x ∈ l, p x = true) → ∃ P a R, l = P ++ a :: R ∧ p a = true ∧ ∀ r ∈ R, p r = false
  | [], ⟨x, hx, _⟩ => by cases hx
  | y :: r, ⟨x, hx, px⟩ => by
    by_cases e : ∃ x ∈ r, p x = true
    · obtain ⟨P, a, R, h1, h2, h3⟩ := split_last p r e
      exact ⟨y :: P, a, R, by rw [h1]; rfl, h2, h3⟩
    · have none_ : ∀ x ∈ r, p x = false := fun x hx => by
        cases h : p x with
        | false => rfl
        | true => exact absurd ⟨x, hx, h⟩ e
      rcases List.mem_cons.mp hx with rfl | h
      · exact ⟨[], x, r, rfl, px, none_⟩
      · rw [none_ x h] at px; cases px
theorem load_sym (ok : WsOk ws z) (z0 : 0 ≤ z) : loadB ws z = true ↔ ∃ f t, inL ws f t ≠ [] ∧ z * (t - f) < ls (wk ws) (inL ws f t) := by
  have wnn : ∀ k, k < ws.length → 0 ≤ wk ws k := fun k hk => by have := wk_nn ok hk; omega
  rw [load_iff]
  constructor
  · rintro ⟨k, P, a, R, hk, ho, h⟩
    obtain ⟨c1, c2, c3, c4, c5⟩ := ord_cut ho
    have ma : a ∈ inL ws (lo ws k) (en ws a) := inL_mem.mpr ⟨(c4 a (List.mem_append_right _ (List.mem_singleton.mpr rfl))).1, (c4 a (List.mem_append_right _ (List.mem_singleton.mpr rfl))).2, Int.le_refl _⟩
    refine ⟨lo ws k, en ws a, (fun e => by rw [e] at ma; cases ma), Int.lt_of_lt_of_le h ?_⟩
    refine ls_more c3 (inL_nodup _ _) (fun x hx => (c4 x hx).1) (fun x hx => (inL_mem.mp hx).1) wnn fun x hx hm => inL_mem.mpr ⟨hx, (c4 x hm).2, ?_⟩
    rcases List.mem_append.mp hm with g | g
    · exact c1 x g
    · rw [List.mem_singleton.mp g]; exact Int.le_refl _
  · rintro ⟨f, t, ne, h⟩
    obtain ⟨i, mi, mx⟩ := most_of (fun k => -lo ws k) _ ne
    have hi_ := inL_mem.mp mi
    have same : ∀ x, x ∈ inL ws f t ↔ x ∈ inL ws (lo ws i) t := fun x => by
      rw [inL_mem, inL_mem]
      constructor
      · intro hx
        have h2 : -lo ws x ≤ -lo ws i := mx x (inL_mem.mpr hx)
        exact ⟨hx.1, by omega, hx.2.2⟩
      · intro hx
        exact ⟨hx.1, by omega, hx.2.2⟩
    have mo : i ∈ ordF ws (lo ws i) := ord_mem.mpr ⟨hi_.1, Int.le_refl _⟩
    obtain ⟨P, a, R, ho, pa, pR⟩ := split_last (fun x => decide (en ws x ≤ t)) (ordF ws (lo ws i)) ⟨i, mo, decide_eq_true hi_.2.2⟩
    have pa := of_decide_eq_true pa
    obtain ⟨c1, c2, c3, c4, c5⟩ := ord_cut ho
    refine ⟨i, P, a, R, hi_.1, ho, ?_⟩
    have e : ls (wk ws) (inL ws f t) = ls (wk ws) (P ++ [a]) := by
      refine ls_same (n := ws.length) (inL_nodup _ _) c3 (fun x hx => (inL_mem.mp hx).1) (fun x hx => (c4 x hx).1) fun x hx => ?_
      rw [same, inL_mem]
      constructor
      · rintro ⟨_, g1, g2⟩
        have mx : x ∈ P ++ a :: R := by rw [← ho]; exact ord_mem.mpr ⟨hx, g1⟩
        rcases List.mem_append.mp mx with g | g
        · exact List.mem_append_left _ g
        · rcases List.mem_cons.mp g with g | g
          · rw [g]; exact List.mem_append_right _ (List.mem_singleton.mpr rfl)
          · have := of_decide_eq_false (pR x g)
            omega
      · intro hm
        refine ⟨hx, (c4 x hm).2, ?_⟩
        rcases List.mem_append.mp hm with g | g
        · have := c1 x g; omega
        · rw [List.mem_singleton.mp g]; exact pa
    rw [e] at h
    refine Int.lt_of_le_of_lt (Int.mul_le_mul_of_nonneg_left ?_ z0) h
    omega
theorem load_bw (ok : WsOk ws z) (z0 : 0 ≤ z) : loadB (bw ws) z = loadB ws z := by
  have e : ∀ f t, inL (bw ws) (-t) (-f) = inL ws f t := fun f t => by
    unfold inL
    rw [bw_len]
    refine List.filter_congr fun k hk => ?_
    have hk := List.mem_range.mp hk
    rw [bw_lo hk, bw_en hk]
    refine decide_eq_decide.mpr ?_
    unfold en
    omega
  have ew : ∀ l : List Nat, (∀ k ∈ l, k < ws.length) → ls (wk (bw ws)) l = ls (wk ws) l := fun l => by
    induction l with
    | nil => intro _; rfl
    | cons a r ih =>
      intro h
      simp only [ls]
      rw [ih fun k hk => h k (List.mem_cons_of_mem _ hk)]
      have ha := h a (List.mem_cons_self ..)
      unfold wk
      rw [bw_ln ha, bw_nd ha]
  refine bool_iff ?_
  rw [load_sym (bw_ok ok) z0, load_sym ok z0]
  constructor
  · rintro ⟨f, t, ne, h⟩
    have g := e (-t) (-f)
    rw [Int.neg_neg, Int.neg_neg] at g
    rw [g] at ne h
    refine ⟨-t, -f, ne, ?_⟩
    rw [ew _ fun k hk => (inL_mem.mp hk).1] at h
    rw [show -f - -t = t - f by omega]; exact h
  · rintro ⟨f, t, ne, h⟩
    refine ⟨-t, -f, by rw [e]; exact ne, ?_⟩
    rw [e, ew _ fun k hk => (inL_mem.mp hk).1, show -f - -t = t - f by omega]; exact h
theorem full_sym (ok : WsOk ws z) (z0 : 0 ≤ z) : fullB ws z = true ↔ ∃ m, z < ls (nd ws) (sureL ws m) := by
  constructor
  · intro h
    obtain ⟨k, _, h⟩ := full_iff.mp h
    exact ⟨_, h⟩
  · rintro ⟨m, h⟩
    exact full_of ok h z0
theorem full_bw (ok : WsOk ws z) (z0 : 0 ≤ z) : fullB (bw ws) z = fullB ws z := by
  have e : ∀ m, sureL (bw ws) m = sureL ws (-m - 1) := fun m => by
    unfold sureL
    rw [bw_len]
    refine List.filter_congr fun k hk => ?_
    have hk := List.mem_range.mp hk
    unfold sureP
    rw [bw_hi hk, bw_lo hk, bw_ln hk]
    refine decide_eq_decide.mpr ?_
    omega
  have ew : ∀ l : List Nat, (∀ k ∈ l, k < ws.length) → ls (nd (bw ws)) l = ls (nd ws) l := fun l => by
    induction l with
    | nil => intro _; rfl
    | cons a r ih =>
      intro h
      simp only [ls]
      rw [ih fun k hk => h k (List.mem_cons_of_mem _ hk), bw_nd (h a (List.mem_cons_self ..))]
  refine bool_iff ?_
  rw [full_sym (bw_ok ok) z0, full_sym ok z0]
  constructor
  · rintro ⟨m, h⟩
    rw [e, ew _ fun k hk => (sure_mem.mp hk).1] at h
    exact ⟨_, h⟩
  · rintro ⟨m, h⟩
    refine ⟨-m - 1, ?_⟩
    rw [e, ew _ fun k hk => (sure_mem.mp hk).1, show -(-m - 1) - 1 = m by omega]; exact h
theorem leaf_bw (ok : WsOk ws z) (z0 : 0 ≤ z) (room : Bool) : leafB room (bw ws) z = leafB room ws z := by
  unfold leafB
  rw [late_bw, load_bw ok z0, full_bw ok z0]
end
/-! ### draws of windows that are alike -/
def mapD (c d : Int) (x : Dr) : Dr := (x.1, x.2.1, c * x.2.2 + d)
theorem draw_sim {p : Nat} {c d : Int} {w w' : Wd} {l b : Option Int} (h1 : 1 ≤ c) (e1 : w'.1 = c * w.1 + d) (e2 : w'.2.1 = c * w.2.1 + d) (e3 : w'.2.2.1 = c * w.2.2.1) :
    drawJ p w' (l.map fun v => c * v + d) (b.map fun v => c * v + -d) = (drawJ p w l b).map (mapD c d) := by
  have low : lowJ w' (l.map fun v => c * v + d) = c * lowJ w l + d := by
    cases l with
    | none => exact e1
    | some s =>
      show (if w'.1 < c * s + d then c * s + d else w'.1) = c * (if w.1 < s then s else w.1) + d
      have := lt2 (x := w.1) (y := s) h1
      rw [e1]
      by_cases g : w.1 < s
      · rw [if_pos g, if_pos (by have := this.mpr g; omega)]
      · rw [if_neg g, if_neg (fun q => g (this.mp (by omega)))]
  unfold drawJ
  rw [List.map_append]
  congr 1
  · cases l with
    | none => rfl
    | some s =>
      show (if w'.1 < c * s + d then [(p, (0 : Int), c * s + d)] else []) = (if w.1 < s then [(p, (0 : Int), s)] else []).map (mapD c d)
      have := lt2 (x := w.1) (y := s) h1
      rw [e1]
      by_cases g : w.1 < s
      · rw [if_pos g, if_pos (by have := this.mpr g; omega)]; rfl
      · rw [if_neg g, if_neg (fun q => g (this.mp (by omega)))]; rfl
  · cases b with
    | none => rfl
    | some s =>
      show (if lowJ w' (l.map fun v => c * v + d) ≤ -(c * s + -d) - w'.2.2.1 ∧ -(c * s + -d) - w'.2.2.1 < w'.2.1 then [(p, (1 : Int), -(c * s + -d) - w'.2.2.1)] else []) = (if lowJ w l ≤ -s - w.2.2.1 ∧ -s - w.2.2.1 < w.2.1 then [(p, (1 : Int), -s - w.2.2.1)] else []).map (mapD c d)
      rw [low, e2, e3]
      have ev : -(c * s + -d) - c * w.2.2.1 = c * (-s - w.2.2.1) + d := by rw [Int.mul_sub, Int.mul_neg]; omega
      rw [ev]
      have a1 := le2 (x := lowJ w l) (y := -s - w.2.2.1) h1
      have a2 := lt2 (x := -s - w.2.2.1) (y := w.2.1) h1
      by_cases g : lowJ w l ≤ -s - w.2.2.1 ∧ -s - w.2.2.1 < w.2.1
      · rw [if_pos g, if_pos ⟨by have := a1.mpr g.1; omega, by have := a2.mpr g.2; omega⟩]; rfl
      · rw [if_neg g, if_neg (fun q => g ⟨a1.mp (by omega), a2.mp (by omega)⟩)]; rfl
theorem draws_sim {js js' : List Jb} {b b' : Bx} {z z' c d e : Int} (s : Sim (wsOf js b) (wsOf js' b') z z' c d e) (z0 : 0 < z) (room : Bool) (hr : room = true → c = 1) (hp : ∀ k, k < js.length → (jA js' k).1 = (jA js k).1) : drawsF room z' js' b' = (drawsF room z js b).map (mapD c d) := by
  have hl : js'.length = js.length := by have := s.len; rw [ws_len, ws_len] at this; exact this
  unfold drawsF
  rw [hl]
  have : ∀ n, n ≤ js.length → drawsN room z' js' (wsOf js' b') n = (drawsN room z js (wsOf js b) n).map (mapD c d) := fun n => by
    induction n with
    | zero => intro _; rfl
    | succ n ih =>
      intro hn
      have hk : n < (wsOf js b).length := by rw [ws_len]; omega
      rw [drawsN_succ, drawsN_succ, List.map_append, ih (by omega), hp n (by omega), s.start z0 room hr hk, s.bw.start z0 room hr (by rw [bw_len]; exact hk)]
      rw [draw_sim s.c1 (s.lo_ n hk) (s.hi_ n hk) (s.ln_ n hk)]
  exact this _ (Nat.le_refl _)
/-! ### draws at one place -/
def atS (p : Nat) (s : Int) (D : List Dr) : List Int := (D.filter fun x => decide (x.1 = p ∧ x.2.1 = s)).map (·.2.2)
theorem atS_app (p : Nat) (s : Int) (A B : List Dr) : atS p s (A ++ B) = atS p s A ++ atS p s B := by unfold atS; rw [List.filter_append, List.map_append]
theorem atS_off {p q : Nat} {s : Int} (h : q ≠ p) (w : Wd) (l b : Option Int) : atS p s (drawJ q w l b) = [] := by
  unfold atS
  rw [List.filter_eq_nil_iff.mpr fun x hx => ?_]
  · rfl
  · have := drawJ_pl hx
    simp [this, h]
def lowD (w : Wd) (l : Option Int) : List Int := match l with
  | some s => if w.1 < s then [s] else []
  | none => []
def highD (w : Wd) (l b : Option Int) : List Int := match b with
  | some s => if lowJ w l ≤ -s - w.2.2.1 ∧ -s - w.2.2.1 < w.2.1 then [-s - w.2.2.1] else []
  | none => []
theorem atS_on (p : Nat) (w : Wd) (l b : Option Int) : atS p 0 (drawJ p w l b) = lowD w l ∧ atS p 1 (drawJ p w l b) = highD w l b := by
  unfold drawJ
  rw [atS_app, atS_app]
  have a0 : atS p 0 (dr0 p w l) = lowD w l ∧ atS p 1 (dr0 p w l) = [] := by
    unfold dr0 lowD
    cases l with
    | none => exact ⟨rfl, rfl⟩
    | some s =>
      dsimp only
      split <;> simp [atS]
  have a1 : atS p 0 (dr1 p w l b) = [] ∧ atS p 1 (dr1 p w l b) = highD w l b := by
    unfold dr1 highD
    cases b with
    | none => exact ⟨rfl, rfl⟩
    | some s =>
      dsimp only
      split <;> simp [atS]
  rw [a0.1, a0.2, a1.1, a1.2, List.append_nil, List.nil_append]
  exact ⟨rfl, rfl⟩
theorem draws_at {n : Nat} {z : Int} {js : List Jb} {b : Bx} (ok : JsOk n z js) (room : Bool) {k : Nat} (hk : k < js.length) :
    atS (jA js k).1 0 (drawsF room z js b) = lowD (gW (wsOf js b) k) (mxO (startC room (wsOf js b) z k)) ∧ atS (jA js k).1 1 (drawsF room z js b) = highD (gW (wsOf js b) k) (mxO (startC room (wsOf js b) z k)) (mxO (startC room (bw (wsOf js b)) z k)) := by
  have : ∀ (s : Int) m, m ≤ js.length → atS (jA js k).1 s (drawsN room z js (wsOf js b) m) = if k < m then atS (jA js k).1 s (drawJ (jA js k).1 (gW (wsOf js b) k) (mxO (startC room (wsOf js b) z k)) (mxO (startC room (bw (wsOf js b)) z k))) else [] := fun s m => by
    induction m with
    | zero => intro _; rfl
    | succ m ih =>
      intro hm
      rw [drawsN_succ, atS_app, ih (by omega)]
      by_cases e : k < m
      · rw [if_pos e, if_pos (by omega), atS_off (jA_ne ok (i := m) (k := k) (by omega) hk (by omega)), List.append_nil]
      · by_cases e2 : k = m
        · subst e2
          rw [if_neg e, if_pos (by omega), List.nil_append]
        · rw [if_neg e, if_neg (by omega), atS_off (jA_ne ok (i := m) (k := k) (by omega) hk (by omega)), List.append_nil]
  unfold drawsF
  rw [this 0 _ (Nat.le_refl _), this 1 _ (Nat.le_refl _), if_pos hk, if_pos hk]
  exact atS_on _ _ _ _
/-- how draws stand to those of time run backwards -/
theorem back_pair {w : Wd} {l b : Option Int} (hl : ∀ s, l = some s → s ≤ w.2.1) (hb : ∀ s, b = some s → s ≤ -w.1 - w.2.2.1) :
    let least := (highD (bwW w) b l).map fun v => 0 - v - w.2.2.1
    let most := (lowD (bwW w) b).map fun v => 0 - v - w.2.2.1
    let crossed := ∃ x y, lowD w l = [x] ∧ most = [y] ∧ y < x
    (¬ crossed → lowD w l = least ∧ highD w l b = most) ∧ (crossed → highD w l b = [] ∧ least = []) := by
  intro least most crossed
  obtain ⟨lo_, hi_, len, need⟩ := w
  have hl : ∀ s, l = some s → s ≤ hi_ := hl
  have hb : ∀ s, b = some s → s ≤ -lo_ - len := hb
  cases l with
  | none =>
    cases b with
    | none => exact ⟨fun _ => ⟨rfl, rfl⟩, fun ⟨x, y, h, _⟩ => by cases h⟩
    | some t =>
      have hb := hb t rfl
      have le : least = [] := rfl
      refine ⟨fun _ => ⟨rfl, ?_⟩, fun ⟨x, y, h, _⟩ => by cases h⟩
      show (if lo_ ≤ -t - len ∧ -t - len < hi_ then [-t - len] else []) = (if -hi_ - len < t then [t] else []).map fun v => 0 - v - len
      by_cases g : -hi_ - len < t
      · rw [if_pos g, if_pos ⟨by omega, by omega⟩]; show [_] = [0 - t - len]; rw [show -t - len = 0 - t - len by omega]
      · rw [if_neg g, if_neg (by omega)]; rfl
  | some s =>
    have hl := hl s rfl
    cases b with
    | none =>
      have em : most = [] := rfl
      have le : least = (if -hi_ - len ≤ -s - len ∧ -s - len < -lo_ - len then [-s - len] else []).map fun v => 0 - v - len := rfl
      refine ⟨fun _ => ⟨?_, rfl⟩, fun ⟨x, y, _, h, _⟩ => by rw [em] at h; cases h⟩
      rw [le]
      show (if lo_ < s then [s] else []) = _
      by_cases g : lo_ < s
      · rw [if_pos g, if_pos ⟨by omega, by omega⟩]; show [s] = [0 - (-s - len) - len]; rw [show 0 - (-s - len) - len = s by omega]
      · rw [if_neg g, if_neg (by omega)]; rfl
    | some t =>
      have hb := hb t rfl
      have le : least = (if (if -hi_ - len < t then t else -hi_ - len) ≤ -s - len ∧ -s - len < -lo_ - len then [-s - len] else []).map fun v => 0 - v - len := rfl
      have eh : highD (lo_, hi_, len, need) (some s) (some t) = if (if lo_ < s then s else lo_) ≤ -t - len ∧ -t - len < hi_ then [-t - len] else [] := rfl
      have e2 : most = (if -hi_ - len < t then [t] else []).map fun v => 0 - v - len := rfl
      by_cases g1 : lo_ < s
      · by_cases g2 : -hi_ - len < t
        · rw [if_pos g2] at e2 le
          rw [if_pos g1] at eh
          by_cases g3 : -t - len < s
          · have cr : crossed := ⟨s, 0 - t - len, by show (if lo_ < s then [s] else []) = [s]; rw [if_pos g1], e2, by omega⟩
            refine ⟨fun h => absurd cr h, fun _ => ⟨?_, ?_⟩⟩
            · rw [eh, if_neg (by omega)]
            · rw [le, if_neg (by omega)]; rfl
          · refine ⟨fun _ => ⟨?_, ?_⟩, fun ⟨x, y, h1, h2, h3⟩ => ?_⟩
            · show (if lo_ < s then [s] else []) = _
              rw [le, if_pos g1, if_pos ⟨by omega, by omega⟩]; show [s] = [0 - (-s - len) - len]; rw [show 0 - (-s - len) - len = s by omega]
            · rw [eh, e2, if_pos ⟨by omega, by omega⟩]; show [_] = [0 - t - len]; rw [show -t - len = 0 - t - len by omega]
            · exfalso
              have h1 : (if lo_ < s then [s] else []) = [x] := h1
              rw [if_pos g1] at h1
              rw [e2] at h2
              have h2 : [0 - t - len] = [y] := h2
              cases h1; cases h2
              omega
        · rw [if_neg g2] at e2 le
          rw [if_pos g1] at eh
          refine ⟨fun _ => ⟨?_, ?_⟩, fun ⟨x, y, _, h2, _⟩ => by rw [e2] at h2; cases h2⟩
          · show (if lo_ < s then [s] else []) = _
            rw [le, if_pos g1, if_pos ⟨by omega, by omega⟩]; show [s] = [0 - (-s - len) - len]; rw [show 0 - (-s - len) - len = s by omega]
          · rw [eh, e2, if_neg (by omega)]; rfl
      · rw [if_neg g1] at eh
        refine ⟨fun _ => ⟨?_, ?_⟩, fun ⟨x, y, h1, _⟩ => by have h1 : (if lo_ < s then [s] else []) = [x] := h1; rw [if_neg g1] at h1; cases h1⟩
        · show (if lo_ < s then [s] else []) = _
          rw [le, if_neg g1, if_neg (by omega)]; rfl
        · rw [eh, e2]
          by_cases g2 : -hi_ - len < t
          · rw [if_pos g2, if_pos ⟨by omega, by omega⟩]; show [_] = [0 - t - len]; rw [show -t - len = 0 - t - len by omega]
          · rw [if_neg g2, if_neg (by omega)]; rfl
/-! ### one bench as a room -/
theorem mx_low {l m : List Int} (h : ∀ v ∈ m, ∃ u ∈ l, v ≤ u) : mxO (l ++ m) = mxO l := by
  have a := mxO_is l
  have b := mxO_is (l ++ m)
  cases e : mxO l with
  | none =>
    rw [e] at a
    have a : l = [] := a
    cases m with
    | nil => rw [a]; rfl
    | cons v m =>
      obtain ⟨u, hu, _⟩ := h v (List.mem_cons_self ..)
      rw [a] at hu; cases hu
  | some x =>
    rw [e] at a
    obtain ⟨a1, a2⟩ := a
    cases e' : mxO (l ++ m) with
    | none =>
      rw [e'] at b
      have b : l ++ m = [] := b
      rw [List.append_eq_nil_iff.mp b |>.1] at a1; cases a1
    | some y =>
      rw [e'] at b
      obtain ⟨b1, b2⟩ := b
      have h1 := b2 x (List.mem_append_left _ a1)
      have h2 : y ≤ x := by
        rcases List.mem_append.mp b1 with g | g
        · exact a2 y g
        · obtain ⟨u, hu, le⟩ := h y g
          have := a2 u hu
          omega
      rw [show y = x by omega]
theorem unit_full {ws : List Wd} (u : ∀ k, k < ws.length → nd ws k = 1) : fullB ws 1 = true → lateB ws 1 = true := fun h => by
  obtain ⟨k, hk, g⟩ := full_iff.mp h
  have mem := fun j (hj : j ∈ sureL ws (hi ws k)) => sure_mem.mp hj
  have pw : (sureL ws (hi ws k)).Pairwise (· < ·) := List.pairwise_lt_range.filter _
  match hs : sureL ws (hi ws k) with
  | [] => rw [hs] at g; simp only [ls] at g; omega
  | [a] =>
    rw [hs] at g mem
    have := u a (mem a (List.mem_cons_self ..)).1
    simp only [ls] at g; omega
  | a :: b :: r =>
    rw [hs] at mem pw
    have ma := mem a (List.mem_cons_self ..)
    have mb := mem b (List.mem_cons_of_mem _ (List.mem_cons_self ..))
    have ab : a < b := (List.pairwise_cons.mp pw).1 b (List.mem_cons_self ..)
    have na := u a ma.1; have nb := u b mb.1
    exact late_of (ws := ws) (z := 1) (by omega) ma.1 mb.1 ⟨by omega, by omega, by omega⟩
theorem unit_leaf {ws : List Wd} (u : ∀ k, k < ws.length → nd ws k = 1) : leafB true ws 1 = leafB false ws 1 := by
  unfold leafB
  cases h : fullB ws 1 with
  | false => simp
  | true => rw [unit_full u h]; rfl
theorem unit_start {ws : List Wd} (u : ∀ k, k < ws.length → nd ws k = 1) {j : Nat} (hj : j < ws.length) : mxO (startC true ws 1 j) = mxO (startC false ws 1 j) := by
  unfold startC
  rw [if_pos rfl, if_neg (by decide), List.append_nil]
  refine mx_low fun v hv => ?_
  obtain ⟨m, hm, le, ov, rfl⟩ := full_mem.mp hv
  unfold overP at ov
  have ne : (sureL ws m).filter (fun o => decide (o ≠ j)) ≠ [] := fun e => by
    rw [e, u j hj] at ov
    simp only [ls] at ov; omega
  obtain ⟨o, ho⟩ := List.exists_mem_of_ne_nil _ ne
  obtain ⟨h1, h2⟩ := List.mem_filter.mp ho
  obtain ⟨g1, g2, g3⟩ := sure_mem.mp h1
  exact ⟨lo ws o + ln ws o, List.mem_append_left _ (late_mem.mpr ⟨o, g1, of_decide_eq_true h2, by rw [u j hj, u o g1]; decide, by omega, rfl⟩), by omega⟩
theorem unit_draws {js : List Jb} {b : Bx} (u : ∀ k, k < (wsOf js b).length → nd (wsOf js b) k = 1) : drawsF true 1 js b = drawsF false 1 js b := by
  unfold drawsF
  have : ∀ n, n ≤ js.length → drawsN true 1 js (wsOf js b) n = drawsN false 1 js (wsOf js b) n := fun n => by
    induction n with
    | zero => intro _; rfl
    | succ n ih =>
      intro hn
      have hk : n < (wsOf js b).length := by rw [ws_len]; omega
      rw [drawsN_succ, drawsN_succ, ih (by omega), unit_start u hk, unit_start (ws := bw (wsOf js b)) (fun k hk => by rw [bw_len] at hk; rw [bw_nd hk]; exact u k hk) (by rw [bw_len]; exact hk)]
  exact this _ (Nat.le_refl _)
/-- the same jobs with great needs -/
theorem free_leaf {ws ws' : List Wd} {m : Int} (hm : 2 ≤ m) (s : Sim ws ws' 1 m 1 0 m) (ok : WsOk ws 1) (h : leafB true ws' (2 * m - 1) = true) : leafB true ws 1 = true := by
  have u : ∀ k, k < ws.length → nd ws k = 1 := fun k hk => by have := ok.nd1 k hk; have := ok.ndz k hk; omega
  have un : ∀ k, k < ws.length → nd ws' k = m := fun k hk => by rw [s.nd_ k hk, u k hk]; omega
  unfold leafB at h ⊢
  rw [Bool.or_eq_true, Bool.or_eq_true] at h ⊢
  rcases h with h | h | h
  · obtain ⟨i, j, ij, hj, g⟩ := late_iff.mp h
    rw [s.len] at hj
    refine .inl (late_iff.mpr ⟨i, j, ij, hj, (s.lateP (by omega) hj).mp ?_⟩)
    unfold lateP at g ⊢
    refine ⟨?_, g.2.1, g.2.2⟩
    rw [un i (by omega), un j hj]; omega
  · refine .inr (.inl ?_)
    rw [← s.load]
    obtain ⟨k, P, a, R, hk, ho, g⟩ := load_iff.mp h
    refine load_iff.mpr ⟨k, P, a, R, hk, ho, Int.lt_of_le_of_lt ?_ g⟩
    obtain ⟨_, _, _, c4, _⟩ := ord_cut ho
    have ha := c4 a (List.mem_append_right _ (List.mem_singleton.mpr rfl))
    refine Int.mul_le_mul_of_nonneg_right (by omega) ?_
    have hk' : a < ws.length := by have := ha.1; rw [s.len] at this; exact this
    have e1 := s.hi_ a hk'; have e2 := s.ln_ a hk'; have e3 := s.lo_ a hk'
    have o1 := ok.ord a hk'; have o2 := ok.len a hk'
    unfold en
    omega
  · refine .inr (.inr ?_)
    have h : fullB ws' (2 * m - 1) = true := h
    show fullB ws 1 = true
    rw [← s.full rfl]
    obtain ⟨k, hk, g⟩ := full_iff.mp h
    exact full_iff.mpr ⟨k, hk, by omega⟩
end M60

namespace M60
/-! ### right leaves, windows changed -/
def LfOk (ws : List Wd) (z : Int) : Lf → Prop
  | .late i o => i < o ∧ o < ws.length ∧ lateP ws z i o
  | .load J f l => J.Pairwise (· < ·) ∧ (∀ a ∈ J, a < ws.length ∧ f ≤ lo ws a ∧ en ws a ≤ l) ∧ f ≤ l ∧ z * (l - f) < ls (wk ws) J
  | .full J m => J.Pairwise (· < ·) ∧ (∀ a ∈ J, a < ws.length ∧ hi ws a ≤ m ∧ m < lo ws a + ln ws a) ∧ z < ls (nd ws) J
/-- the windows with another pair of ends for one job -/
def cg (ws : List Wd) (j : Nat) (a b : Int) : List Wd := ws.set j (a, b, ln ws j, nd ws j)
section
variable {ws : List Wd} {z : Int} {j : Nat} {a b : Int}
theorem cg_len : (cg ws j a b).length = ws.length := List.length_set ..
theorem cg_at (hj : j < ws.length) (k : Nat) : gW (cg ws j a b) k = if k = j then (a, b, ln ws j, nd ws j) else gW ws k := by
  unfold gW cg
  rw [List.getD_eq_getElem?_getD, List.getElem?_set]
  by_cases e : k = j
  · subst e
    rw [if_pos rfl, if_pos rfl, if_pos hj]; rfl
  · rw [if_neg (fun z => e z.symm), if_neg e, List.getD_eq_getElem?_getD]
theorem cg_lo (hj : j < ws.length) (k : Nat) : lo (cg ws j a b) k = if k = j then a else lo ws k := by
  unfold lo; rw [cg_at hj]; split <;> rfl
theorem cg_hi (hj : j < ws.length) (k : Nat) : hi (cg ws j a b) k = if k = j then b else hi ws k := by
  unfold hi; rw [cg_at hj]; split <;> rfl
theorem cg_ln (hj : j < ws.length) (k : Nat) : ln (cg ws j a b) k = ln ws k := by
  unfold ln; rw [cg_at hj]; split
  · rename_i e; rw [e]; rfl
  · rfl
theorem cg_nd (hj : j < ws.length) (k : Nat) : nd (cg ws j a b) k = nd ws k := by
  unfold nd; rw [cg_at hj]; split
  · rename_i e; rw [e]; rfl
  · rfl
theorem cg_wk (hj : j < ws.length) : wk (cg ws j a b) = wk ws := by
  funext k; unfold wk; rw [cg_ln hj, cg_nd hj]
theorem cg_nds (hj : j < ws.length) : nd (cg ws j a b) = nd ws := funext fun k => cg_nd hj k
theorem cg_en (hj : j < ws.length) (k : Nat) : en (cg ws j a b) k = if k = j then b + ln ws j else en ws k := by
  unfold en; rw [cg_hi hj, cg_ln hj]
  split
  · rename_i e; rw [e]
  · rfl
theorem cg_same (hj : j < ws.length) : cg ws j (lo ws j) (hi ws j) = ws := by
  refine List.ext_getElem cg_len fun k h1 h2 => ?_
  have := cg_at (a := lo ws j) (b := hi ws j) hj k
  rw [gW_at h1, gW_at h2] at this
  rw [this]
  split
  · rename_i e; subst e
    have e2 : gW ws k = ws[k] := gW_at h2
    rw [← e2]; rfl
  · rfl
theorem cg_ok (ok : WsOk ws z) (hj : j < ws.length) (ab : a ≤ b) : WsOk (cg ws j a b) z := by
  refine ⟨fun k hk => ?_, fun k hk => ?_, fun k hk => ?_, fun k hk => ?_⟩ <;> rw [cg_len] at hk
  · first
      | (rw [cg_lo hj, cg_hi hj]; split; exact ab; exact ok.ord k hk)
      | (rw [cg_ln hj]; exact ok.len k hk)
      | (rw [cg_nd hj]; exact ok.nd1 k hk)
      | (rw [cg_nd hj]; exact ok.ndz k hk)
  · first
      | (rw [cg_lo hj, cg_hi hj]; split; exact ab; exact ok.ord k hk)
      | (rw [cg_ln hj]; exact ok.len k hk)
      | (rw [cg_nd hj]; exact ok.nd1 k hk)
      | (rw [cg_nd hj]; exact ok.ndz k hk)
  · first
      | (rw [cg_lo hj, cg_hi hj]; split; exact ab; exact ok.ord k hk)
      | (rw [cg_ln hj]; exact ok.len k hk)
      | (rw [cg_nd hj]; exact ok.nd1 k hk)
      | (rw [cg_nd hj]; exact ok.ndz k hk)
  · first
      | (rw [cg_lo hj, cg_hi hj]; split; exact ab; exact ok.ord k hk)
      | (rw [cg_ln hj]; exact ok.len k hk)
      | (rw [cg_nd hj]; exact ok.nd1 k hk)
      | (rw [cg_nd hj]; exact ok.ndz k hk)
/-- a right leaf is a leaf -/
def lfRoom : Lf → Bool
  | .full _ _ => true
  | _ => false
theorem pw_nodup {J : List Nat} (h : J.Pairwise (· < ·)) : J.Nodup := h.imp fun {a b} g => by omega
theorem lfOk_leaf (ok : WsOk ws z) (z0 : 0 ≤ z) {L : Lf} {room : Bool} (h : LfOk ws z L) (hr : lfRoom L = true → room = true) : leafB room ws z = true := by
  unfold leafB
  cases L with
  | late i o =>
    obtain ⟨h1, h2, h3⟩ := h
    rw [late_iff.mpr ⟨i, o, h1, h2, h3⟩]; rfl
  | load J f l =>
    obtain ⟨h1, h2, h3, h4⟩ := h
    have : loadB ws z = true := by
      refine (load_sym ok z0).mpr ⟨f, l, fun e => ?_, Int.lt_of_lt_of_le h4 (ls_more (pw_nodup h1) (inL_nodup _ _) (fun k hk => (h2 k hk).1) (fun k hk => (inL_mem.mp hk).1) (fun k hk => by have := wk_nn ok hk; omega) fun k hk hm => inL_mem.mpr (h2 k hm))⟩
      have e2 : J = [] := by
        cases J with
        | nil => rfl
        | cons x r =>
          have : x ∈ inL ws f l := inL_mem.mpr (h2 x (List.mem_cons_self ..))
          rw [e] at this; cases this
      rw [e2] at h4
      have : 0 ≤ z * (l - f) := Int.mul_nonneg z0 (by omega)
      simp only [ls] at h4
      omega
    rw [this, Bool.true_or, Bool.or_true]
  | full J m =>
    obtain ⟨h1, h2, h3⟩ := h
    have : fullB ws z = true := by
      refine (full_sym ok z0).mpr ⟨m, Int.lt_of_lt_of_le h3 (ls_more (pw_nodup h1) (sure_nodup _) (fun k hk => (h2 k hk).1) (fun k hk => (sure_mem.mp hk).1) (fun k hk => by have := ok.nd1 k hk; omega) fun k hk hm => sure_mem.mpr (h2 k hm))⟩
    rw [this, hr rfl]
    simp
theorem ws_cong {ws ws' : List Wd} (hl : ws'.length = ws.length) (h : ∀ k, k < ws.length → gW ws' k = gW ws k) : ws' = ws := by
  refine List.ext_getElem hl fun k h1 h2 => ?_
  have := h k h2
  rw [gW_at h1, gW_at h2] at this
  exact this
/-- backwards, a changed job's ends -/
theorem bw_cg (hj : j < ws.length) : bw (cg ws j a b) = cg (bw ws) j (-b - ln ws j) (-a - ln ws j) := by
  have hj2 : j < (bw ws).length := by rw [bw_len]; exact hj
  refine ws_cong (by rw [bw_len, cg_len, cg_len, bw_len]) fun k hk => ?_
  rw [cg_len, bw_len] at hk
  rw [bw_at (by rw [cg_len]; exact hk), cg_at hj, cg_at hj2, bw_ln hj, bw_nd hj]
  split
  · rfl
  · rw [bw_at hk]
theorem lfB_ok {L : Lf} (h : LfOk (bw ws) z L) : LfOk ws z (lfB L) := by
  have hl := bw_len ws
  cases L with
  | late i o =>
    obtain ⟨h1, h2, h3⟩ := h
    rw [hl] at h2
    have hi_ : i < ws.length := by omega
    unfold lateP at h3
    rw [bw_nd hi_, bw_nd h2, bw_hi h2, bw_lo hi_, bw_ln hi_, bw_hi hi_, bw_lo h2, bw_ln h2] at h3
    exact ⟨h1, h2, by unfold lateP; omega⟩
  | load J f l =>
    obtain ⟨h1, h2, h3, h4⟩ := h
    have e : ls (wk (bw ws)) J = ls (wk ws) J := by
      have : ∀ J : List Nat, (∀ a ∈ J, a < ws.length) → ls (wk (bw ws)) J = ls (wk ws) J := fun J => by
        induction J with
        | nil => intro _; rfl
        | cons x r ih =>
          intro g
          simp only [ls]
          rw [ih fun a ha => g a (List.mem_cons_of_mem _ ha)]
          have gx := g x (List.mem_cons_self ..)
          unfold wk
          rw [bw_ln gx, bw_nd gx]
      exact this J fun a ha => by have := (h2 a ha).1; rw [hl] at this; exact this
    rw [e] at h4
    refine ⟨h1, fun a ha => ?_, by show -l ≤ -f; omega, ?_⟩
    · obtain ⟨g1, g2, g3⟩ := h2 a ha
      rw [hl] at g1
      rw [bw_lo g1] at g2
      rw [bw_en g1] at g3
      unfold en
      exact ⟨g1, by show -l ≤ _; omega, by show _ ≤ -f; omega⟩
    · show z * (-f - -l) < _
      rw [show -f - -l = l - f by omega]; exact h4
  | full J m =>
    obtain ⟨h1, h2, h3⟩ := h
    have e : ls (nd (bw ws)) J = ls (nd ws) J := by
      have : ∀ J : List Nat, (∀ a ∈ J, a < ws.length) → ls (nd (bw ws)) J = ls (nd ws) J := fun J => by
        induction J with
        | nil => intro _; rfl
        | cons x r ih =>
          intro g
          simp only [ls]
          rw [ih fun a ha => g a (List.mem_cons_of_mem _ ha)]
          rw [bw_nd (g x (List.mem_cons_self ..))]
      exact this J fun a ha => by have := (h2 a ha).1; rw [hl] at this; exact this
    rw [e] at h3
    refine ⟨h1, fun a ha => ?_, h3⟩
    obtain ⟨g1, g2, g3⟩ := h2 a ha
    rw [hl] at g1
    rw [bw_hi g1] at g2
    rw [bw_lo g1, bw_ln g1] at g3
    exact ⟨g1, by show _ ≤ -m - 1; omega, by show -m - 1 < _; omega⟩
/-! ### shown by a narrower window -/
/-- a narrower window shows no less -/
theorem leaf_mono {ws' : List Wd} (ok : WsOk ws z) (ok' : WsOk ws' z) (z0 : 0 ≤ z) (hl : ws'.length = ws.length) (h : ∀ k, k < ws.length → lo ws k ≤ lo ws' k ∧ hi ws' k ≤ hi ws k ∧ ln ws' k = ln ws k ∧ nd ws' k = nd ws k) (room : Bool) (g : leafB room ws z = true) : leafB room ws' z = true := by
  unfold leafB at g ⊢
  have hw : ∀ J : List Nat, (∀ a ∈ J, a < ws.length) → ls (wk ws') J = ls (wk ws) J := fun J => by
    induction J with
    | nil => intro _; rfl
    | cons x r ih =>
      intro q
      simp only [ls]
      rw [ih fun a ha => q a (List.mem_cons_of_mem _ ha)]
      obtain ⟨_, _, e1, e2⟩ := h x (q x (List.mem_cons_self ..))
      unfold wk; rw [e1, e2]
  have hn : ∀ J : List Nat, (∀ a ∈ J, a < ws.length) → ls (nd ws') J = ls (nd ws) J := fun J => by
    induction J with
    | nil => intro _; rfl
    | cons x r ih =>
      intro q
      simp only [ls]
      rw [ih fun a ha => q a (List.mem_cons_of_mem _ ha)]
      obtain ⟨_, _, e1, e2⟩ := h x (q x (List.mem_cons_self ..))
      rw [e2]
  rcases Bool.or_eq_true_iff.mp g with g | g
  · obtain ⟨i, o, h1, h2, h3⟩ := late_iff.mp g
    rw [late_iff.mpr ⟨i, o, h1, by omega, by
      have a1 := h i (by omega); have a2 := h o h2
      unfold lateP at *
      omega⟩]; rfl
  · rcases Bool.or_eq_true_iff.mp g with g | g
    · obtain ⟨f, t, ne, big⟩ := (load_sym ok z0).mp g
      have sub : ∀ k, k ∈ inL ws f t → k ∈ inL ws' f t := fun k hk => by
        obtain ⟨k1, k2, k3⟩ := inL_mem.mp hk
        obtain ⟨a1, a2, a3, a4⟩ := h k k1
        unfold en at k3
        refine inL_mem.mpr ⟨by omega, by omega, ?_⟩
        unfold en; omega
      have : loadB ws' z = true := (load_sym ok' z0).mpr ⟨f, t, fun e => ne (List.eq_nil_iff_forall_not_mem.mpr fun k hk => by have := sub k hk; rw [e] at this; cases this), by
        rw [← hw _ (fun k hk => (inL_mem.mp hk).1)] at big
        exact Int.lt_of_lt_of_le big (ls_more (inL_nodup _ _) (inL_nodup _ _) (fun k hk => by have := (inL_mem.mp hk).1; omega) (fun k hk => (inL_mem.mp hk).1) (fun k hk => by have := wk_nn ok' hk; omega) fun k hk => sub k)⟩
      rw [this]; simp
    · obtain ⟨hr, g⟩ := Bool.and_eq_true_iff.mp g
      obtain ⟨m, big⟩ := (full_sym ok z0).mp g
      have sub : ∀ k, k ∈ sureL ws m → k ∈ sureL ws' m := fun k hk => by
        obtain ⟨k1, k2, k3⟩ := sure_mem.mp hk
        obtain ⟨a1, a2, a3, a4⟩ := h k k1
        exact sure_mem.mpr ⟨by omega, by omega, by omega⟩
      have : fullB ws' z = true := (full_sym ok' z0).mpr ⟨m, by
        rw [← hn _ (fun k hk => (sure_mem.mp hk).1)] at big
        exact Int.lt_of_lt_of_le big (ls_more (sure_nodup _) (sure_nodup _) (fun k hk => by have := (sure_mem.mp hk).1; omega) (fun k hk => (sure_mem.mp hk).1) (fun k hk => by have := ok'.nd1 k hk; omega) fun k hk => sub k)⟩
      rw [this, hr]; simp
end
end M60

namespace M60
section
variable {ws : List Wd} {z : Int} {j : Nat}
theorem ls_congr {f g : Nat → Int} : ∀ {J : List Nat}, (∀ a ∈ J, f a = g a) → ls f J = ls g J
  | [], _ => rfl
  | x :: r, h => by
    simp only [ls]
    rw [ls_congr fun a ha => h a (List.mem_cons_of_mem _ ha), h x (List.mem_cons_self ..)]
/-! ### the leaves of the starts are right -/
theorem late_lf {o : Nat} (hj : j < ws.length) (ho : o < ws.length) (ne : o ≠ j) (h1 : z < nd ws j + nd ws o) (h2 : hi ws o < lo ws j + ln ws j) : LfOk (cg ws j (lo ws j) (lo ws o + ln ws o - 1)) z (.late (if o < j then o else j) (if o > j then o else j)) := by
  have nej : ¬ o = j := ne
  have key : lateP (cg ws j (lo ws j) (lo ws o + ln ws o - 1)) z j o := by
    unfold lateP
    rw [cg_nd hj, cg_nd hj, cg_hi hj, cg_hi hj, cg_lo hj, cg_lo hj, cg_ln hj, cg_ln hj, if_pos rfl, if_pos rfl, if_neg nej, if_neg nej]
    omega
  by_cases c : o < j
  · rw [if_pos c, if_neg (by omega)]
    exact ⟨c, by rw [cg_len]; exact hj, lateP_sym key⟩
  · rw [if_neg c, if_pos (by omega)]
    exact ⟨by omega, by rw [cg_len]; exact ho, key⟩
def jwith (ws : List Wd) (f l : Int) (j : Nat) : List Nat := (List.range ws.length).filter fun k => decide ((f ≤ lo ws k ∧ en ws k ≤ l) ∨ k = j)
theorem jwith_mem {f l : Int} {k : Nat} : k ∈ jwith ws f l j ↔ k < ws.length ∧ ((f ≤ lo ws k ∧ en ws k ≤ l) ∨ k = j) := by
  unfold jwith
  rw [List.mem_filter, List.mem_range, decide_eq_true_iff]
/-- what a span tells -/
def SpOk (ws : List Wd) (z : Int) (j : Nat) (s f l : Int) : Prop := ∃ P a R, ordF ws f = P ++ a :: R ∧ j ∈ R ∧ l = en ws a ∧ z * (l - f) < ls (wk ws) (P ++ [a]) + wk ws j ∧ s = f - -(ls (wk ws) (P ++ [a]) + wk ws j) / z - ln ws j
theorem SpOk.some {s f l : Int} (h : SpOk ws z j s f l) : ∃ a, a < ws.length ∧ f ≤ lo ws a ∧ en ws a ≤ l := by
  obtain ⟨P, a, R, e, _, rfl, _⟩ := h
  obtain ⟨_, _, _, c4, _⟩ := ord_cut e
  have := c4 a (List.mem_append_right _ (List.mem_singleton.mpr rfl))
  exact ⟨a, this.1, this.2, Int.le_refl _⟩
theorem load_lf (ok : WsOk ws z) (z0 : 0 < z) {s f l : Int} (h : SpOk ws z j s f l) : j < ws.length ∧ LfOk (cg ws j (lo ws j) (s - 1)) z (.load (jwith ws f l j) f (if s - 1 + ln ws j > l then s - 1 + ln ws j else l)) := by
  obtain ⟨P, a, R, e, hjR, rfl, big, es⟩ := h
  obtain ⟨c1, c2, c3, c4, c5⟩ := ord_cut e
  obtain ⟨hj, fj, nj⟩ := c5 j hjR
  have ha := c4 a (List.mem_append_right _ (List.mem_singleton.mpr rfl))
  have fl := f_le ok ha
  refine ⟨hj, List.pairwise_lt_range.filter _, fun k hk => ?_, by split <;> omega, ?_⟩
  · obtain ⟨k1, k2⟩ := jwith_mem.mp hk
    rw [cg_len, cg_lo hj, cg_en hj]
    by_cases q : k = j
    · subst q
      rw [if_pos rfl, if_pos rfl]
      refine ⟨k1, fj, ?_⟩
      split <;> omega
    · rcases k2 with k2 | k2
      · rw [if_neg q, if_neg q]
        refine ⟨k1, k2.1, ?_⟩
        split <;> omega
      · exact absurd k2 q
  · rw [cg_wk hj]
    have nd' : (P ++ [a] ++ [j]).Nodup := List.nodup_append.mpr ⟨c3, by simp, fun x hx y hy => by rw [List.mem_singleton.mp hy]; exact fun q => nj (by rw [← q]; exact hx)⟩
    have tot : ls (wk ws) (P ++ [a]) + wk ws j ≤ ls (wk ws) (jwith ws f (en ws a) j) := by
      have e1 : ls (wk ws) (P ++ [a] ++ [j]) = ls (wk ws) (P ++ [a]) + wk ws j := by rw [ls_app]; simp [ls]
      rw [← e1]
      refine ls_more nd' (List.nodup_range.filter _) (fun k hk => ?_) (fun k hk => (jwith_mem.mp hk).1) (fun k hk => by have := wk_nn ok hk; omega) fun k hk hm => ?_
      · rcases List.mem_append.mp hk with g | g
        · exact (c4 k g).1
        · rw [List.mem_singleton.mp g]; exact hj
      · rcases List.mem_append.mp hm with g | g
        · exact jwith_mem.mpr ⟨hk, .inl ⟨(c4 k g).2, cut_le e k g⟩⟩
        · exact jwith_mem.mpr ⟨hk, .inr (List.mem_singleton.mp g)⟩
    refine Int.lt_of_lt_of_le ?_ tot
    generalize ls (wk ws) (P ++ [a]) + wk ws j = t at *
    split
    · refine ceil_gt z0 ?_
      omega
    · exact big
def jsure (ws : List Wd) (m : Int) (j : Nat) : List Nat := (List.range ws.length).filter fun k => decide ((hi ws k ≤ m ∧ m < lo ws k + ln ws k) ∨ k = j)
theorem jsure_mem {m : Int} {k : Nat} : k ∈ jsure ws m j ↔ k < ws.length ∧ ((hi ws k ≤ m ∧ m < lo ws k + ln ws k) ∨ k = j) := by
  unfold jsure
  rw [List.mem_filter, List.mem_range, decide_eq_true_iff]
theorem over_sum (hj : j < ws.length) (m : Int) : ls (nd ws) (jsure ws m j) = ls (nd ws) ((sureL ws m).filter fun o => decide (o ≠ j)) + nd ws j := by
  have mj : j ∈ jsure ws m j := jsure_mem.mpr ⟨hj, .inr rfl⟩
  have nd1 : (jsure ws m j).Nodup := List.nodup_range.filter _
  rw [ls_ne nd1 mj]
  congr 1
  refine ls_same (nd1.filter _) ((sure_nodup m).filter _) (fun k hk => (jsure_mem.mp (List.mem_filter.mp hk).1).1) (fun k hk => (sure_mem.mp (List.mem_filter.mp hk).1).1) fun k hk => ?_
  rw [List.mem_filter, List.mem_filter, jsure_mem, sure_mem, decide_eq_true_iff]
  constructor
  · rintro ⟨⟨h1, h2⟩, ne⟩
    rcases h2 with h2 | h2
    · exact ⟨⟨h1, h2⟩, ne⟩
    · exact absurd h2 ne
  · rintro ⟨⟨h1, h2⟩, ne⟩
    exact ⟨⟨h1, .inl h2⟩, ne⟩
theorem full_lf (ok : WsOk ws z) (hj : j < ws.length) {m : Int} (h1 : m ≤ lo ws j + ln ws j - 1) (h2 : overP ws z j m) : LfOk (cg ws j (lo ws j) m) z (.full (jsure ws m j) m) := by
  refine ⟨List.pairwise_lt_range.filter _, fun k hk => ?_, ?_⟩
  · obtain ⟨k1, k2⟩ := jsure_mem.mp hk
    rw [cg_len, cg_hi hj, cg_lo hj, cg_ln hj]
    by_cases q : k = j
    · subst q
      rw [if_pos rfl, if_pos rfl]
      exact ⟨k1, Int.le_refl _, by omega⟩
    · rcases k2 with k2 | k2
      · rw [if_neg q, if_neg q]
        exact ⟨k1, k2⟩
      · exact absurd k2 q
  · rw [cg_nds hj, over_sum hj]
    exact h2
theorem start_lf (ok : WsOk ws z) (z0 : 0 < z) (room : Bool) (hj : j < ws.length) {s : Int} (h : s ∈ startC room ws z j) : ∃ L, LfOk (cg ws j (lo ws j) (s - 1)) z L ∧ (lfRoom L = true → room = true) := by
  unfold startC at h
  rcases List.mem_append.mp h with h | h
  · rcases List.mem_append.mp h with h | h
    · obtain ⟨o, h1, h2, h3, h4, rfl⟩ := late_mem.mp h
      exact ⟨_, late_lf hj h1 h2 h3 h4, fun z => by cases z⟩
    · obtain ⟨k, P, a, R, hk, e, hjR, big, es⟩ := load_mem.mp h
      exact ⟨_, (load_lf ok z0 (s := s) ⟨P, a, R, e, hjR, rfl, big, es⟩).2, fun z => by cases z⟩
  · cases room with
    | false => cases h
    | true =>
      obtain ⟨m, _, h2, h3, rfl⟩ := full_mem.mp h
      refine ⟨.full (jsure ws m j) m, ?_, fun _ => rfl⟩
      rw [show m + 1 - 1 = m by omega]
      exact full_lf ok hj h2 h3
/-! ### each leaf of a narrower window has its start -/
theorem late_of_cg (nl : lateB ws z = false) (hj : j < ws.length) {v : Int} (hv : v - 1 ≤ hi ws j) (h : lateB (cg ws j (lo ws j) (v - 1)) z = true) : ∃ s ∈ lateC ws z j, v ≤ s := by
  obtain ⟨i, o, h1, h2, h3⟩ := late_iff.mp h
  rw [cg_len] at h2
  unfold lateP at h3
  rw [cg_nd hj, cg_nd hj, cg_hi hj, cg_hi hj, cg_lo hj, cg_lo hj, cg_ln hj, cg_ln hj] at h3
  have no : ¬ lateP ws z i o := fun q => by rw [late_iff.mpr ⟨i, o, h1, h2, q⟩] at nl; cases nl
  unfold lateP at no
  by_cases e1 : i = j
  · subst e1
    rw [if_pos rfl, if_pos rfl, if_neg (by omega), if_neg (by omega)] at h3
    exact ⟨lo ws o + ln ws o, late_mem.mpr ⟨o, h2, by omega, h3.1, h3.2.1, rfl⟩, by omega⟩
  · by_cases e2 : o = j
    · subst e2
      rw [if_pos rfl, if_pos rfl, if_neg e1, if_neg e1] at h3
      exact ⟨lo ws i + ln ws i, late_mem.mpr ⟨i, by omega, e1, by omega, h3.2.2, rfl⟩, by omega⟩
    · rw [if_neg e1, if_neg e1, if_neg e2, if_neg e2] at h3
      exact absurd h3 no
theorem ceil_ge {t y : Int} (z0 : 0 < z) (h : z * y < t) : y < -(-t / z) := by
  have : ¬ -(-t / z) ≤ y := fun g => by
    have h1 : -t / z * z ≤ -t := Int.ediv_mul_le (-t) (by omega)
    have h2 : z * -(-t / z) ≤ z * y := Int.mul_le_mul_of_nonneg_left g (by omega)
    have h3 : z * -(-t / z) = -(-t / z * z) := by rw [Int.mul_neg, Int.mul_comm]
    omega
  omega
theorem load_of_cg (ok : WsOk ws z) (z0 : 0 < z) (nl : loadB ws z = false) (hj : j < ws.length) {v : Int} (h0 : lo ws j ≤ v - 1) (hv : v - 1 ≤ hi ws j) (h : loadB (cg ws j (lo ws j) (v - 1)) z = true) : ∃ s ∈ loadC ws z j, v ≤ s := by
  have okc := cg_ok ok hj h0
  obtain ⟨f, t, ne, big⟩ := (load_sym okc (by omega)).mp h
  rw [cg_wk hj] at big
  generalize hS : inL (cg ws j (lo ws j) (v - 1)) f t = S at *
  have mem : ∀ k, k ∈ S ↔ k < ws.length ∧ f ≤ lo ws k ∧ (if k = j then v - 1 + ln ws j else en ws k) ≤ t := fun k => by
    rw [← hS, inL_mem, cg_len, cg_en hj, cg_lo hj]
    by_cases q : k = j
    · rw [if_pos q, if_pos q, q]
    · rw [if_neg q, if_neg q]
  have ndS : S.Nodup := by rw [← hS]; exact inL_nodup _ _
  have jS : j ∈ S := by
    by_cases q : j ∈ S
    · exact q
    · exfalso
      have : loadB ws z = true := (load_sym ok (by omega)).mpr ⟨f, t, fun e => ne (List.eq_nil_iff_forall_not_mem.mpr fun k hk => by
          obtain ⟨k1, k2, k3⟩ := (mem k).mp hk
          have kj : k ≠ j := fun e => q (by rw [← e]; exact hk)
          rw [if_neg kj] at k3
          have : k ∈ inL ws f t := inL_mem.mpr ⟨k1, k2, k3⟩
          rw [e] at this; cases this), Int.lt_of_lt_of_le big (ls_more ndS (inL_nodup _ _) (fun k hk => ((mem k).mp hk).1) (fun k hk => (inL_mem.mp hk).1) (fun k hk => by have := wk_nn ok hk; omega) fun k hk hm => by
            obtain ⟨k1, k2, k3⟩ := (mem k).mp hm
            have kj : k ≠ j := fun e => q (by rw [← e]; exact hm)
            rw [if_neg kj] at k3
            exact inL_mem.mpr ⟨k1, k2, k3⟩)⟩
      rw [nl] at this; cases this
  have jm := (mem j).mp jS
  rw [if_pos rfl] at jm
  have lj := ok.len j hj
  have nzj := ok.ndz j hj
  have n1j := ok.nd1 j hj
  have big' := big
  rw [ls_ne ndS jS] at big'
  -- the others are some
  have others : (S.filter fun o => decide (o ≠ j)) ≠ [] := fun e => by
    rw [e] at big'
    simp only [ls] at big'
    have h1 : ln ws j ≤ t - f := by omega
    have h2 : wk ws j ≤ z * (t - f) := by
      unfold wk
      rw [Int.mul_comm]
      exact Int.mul_le_mul nzj h1 (by omega) (by omega)
    omega
  obtain ⟨k0, mk0, least⟩ := most_of (fun k => -lo ws k) S ne
  have hk0 := (mem k0).mp mk0
  generalize hf0 : lo ws k0 = f0 at *
  have f0le : ∀ k ∈ S, f0 ≤ lo ws k := fun k hk => by have := least k hk; omega
  have ff0 : f ≤ f0 := by have := hk0.2.1; omega
  obtain ⟨b0, mb0⟩ := List.exists_mem_of_ne_nil _ others
  have b0S := (List.mem_filter.mp mb0).1
  have b0j := of_decide_eq_true (List.mem_filter.mp mb0).2
  have inOrd : ∀ k ∈ S, k ∈ ordF ws f0 := fun k hk => ord_mem.mpr ⟨((mem k).mp hk).1, f0le k hk⟩
  -- the last of the others in the order of the ends
  obtain ⟨P, a, R, e, pa, pR⟩ := split_last (fun k => decide (k ∈ S ∧ k ≠ j)) (ordF ws f0) ⟨b0, inOrd b0 b0S, decide_eq_true ⟨b0S, b0j⟩⟩
  obtain ⟨aS, aj⟩ := of_decide_eq_true pa
  obtain ⟨c1, c2, c3, c4, c5⟩ := ord_cut e
  have am := (mem a).mp aS
  rw [if_neg aj] at am
  have subP : ∀ k ∈ S, k ≠ j → k ∈ P ++ [a] := fun k hk kj => by
    have := inOrd k hk
    rw [e] at this
    rcases List.mem_append.mp this with g | g
    · exact List.mem_append_left _ g
    · rcases List.mem_cons.mp g with g | g
      · rw [g]; exact List.mem_append_right _ (List.mem_singleton.mpr rfl)
      · exact absurd ⟨hk, kj⟩ (of_decide_eq_false (pR k g))
  have nnw : ∀ k, k < ws.length → 0 ≤ wk ws k := fun k hk => by have := wk_nn ok hk; omega
  have sumP : ls (wk ws) (S.filter fun o => decide (o ≠ j)) ≤ ls (wk ws) (P ++ [a]) := ls_more (ndS.filter _) c3 (fun k hk => ((mem k).mp (List.mem_filter.mp hk).1).1) (fun k hk => (c4 k hk).1) nnw fun k hk hm => subP k (List.mem_filter.mp hm).1 (of_decide_eq_true (List.mem_filter.mp hm).2)
  have zt : z * (en ws a - f0) ≤ z * (t - f) := Int.mul_le_mul_of_nonneg_left (by omega) (by omega)
  have zt2 : z * (t - f0) ≤ z * (t - f) := Int.mul_le_mul_of_nonneg_left (by omega) (by omega)
  have jo := inOrd j jS
  rw [e] at jo
  rcases List.mem_append.mp jo with g | g
  · exfalso
    have sumA : ls (wk ws) S ≤ ls (wk ws) (P ++ [a]) := ls_more ndS c3 (fun k hk => ((mem k).mp hk).1) (fun k hk => (c4 k hk).1) nnw fun k hk hm => by
      by_cases q : k = j
      · rw [q]; exact List.mem_append_left _ g
      · exact subP k hm q
    have : loadB ws z = true := load_iff.mpr ⟨k0, P, a, R, hk0.1, by rw [hf0]; exact e, by rw [hf0]; omega⟩
    rw [nl] at this; cases this
  · rcases List.mem_cons.mp g with g | g
    · exact absurd g.symm aj
    · refine ⟨f0 - -(ls (wk ws) (P ++ [a]) + wk ws j) / z - ln ws j, load_mem.mpr ⟨k0, P, a, R, hk0.1, by rw [hf0]; exact e, g, by rw [hf0]; omega, by rw [hf0]⟩, ?_⟩
      have : t - f0 < -(-(ls (wk ws) (P ++ [a]) + wk ws j) / z) := ceil_ge z0 (by omega)
      omega
theorem full_of_cg (ok : WsOk ws z) (z0 : 0 < z) (nl : fullB ws z = false) (hj : j < ws.length) {v : Int} (h0 : lo ws j ≤ v - 1) (hv : v - 1 ≤ hi ws j) (h : fullB (cg ws j (lo ws j) (v - 1)) z = true) : ∃ s ∈ fullC ws z j, v ≤ s := by
  have okc := cg_ok ok hj h0
  obtain ⟨m, big⟩ := (full_sym okc (by omega)).mp h
  rw [cg_nds hj] at big
  have mem : ∀ k, k ∈ sureL (cg ws j (lo ws j) (v - 1)) m ↔ k < ws.length ∧ (if k = j then v - 1 else hi ws k) ≤ m ∧ m < lo ws k + ln ws k := fun k => by
    rw [sure_mem, cg_len, cg_hi hj, cg_lo hj, cg_ln hj]
    by_cases q : k = j
    · rw [if_pos q, if_pos q, q]
    · rw [if_neg q, if_neg q]
  have nnn : ∀ k, k < ws.length → 0 ≤ nd ws k := fun k hk => by have := ok.nd1 k hk; omega
  generalize hS : sureL (cg ws j (lo ws j) (v - 1)) m = S at *
  have ndS : S.Nodup := by rw [← hS]; exact sure_nodup _
  by_cases q : j ∈ S
  · have jm := (mem j).mp q
    rw [if_pos rfl] at jm
    rw [ls_ne ndS q] at big
    -- the latest moment at which all of them still run
    obtain ⟨k1, mk1, lst⟩ := most_of (fun k => -(lo ws k + ln ws k)) S (fun e => by rw [e] at q; cases q)
    have hk1 := (mem k1).mp mk1
    refine ⟨lo ws k1 + ln ws k1 - 1 + 1, full_mem.mpr ⟨lo ws k1 + ln ws k1 - 1, ?_, by have := lst j q; omega, ?_, rfl⟩, by omega⟩
    · exact mom_mem.mpr (.inr ⟨k1, hk1.1, rfl⟩)
    · unfold overP
      refine Int.lt_of_lt_of_le big (Int.add_le_add_right (ls_more (ndS.filter _) ((sure_nodup _).filter _) (fun k hk => ((mem k).mp (List.mem_filter.mp hk).1).1) (fun k hk => (sure_mem.mp (List.mem_filter.mp hk).1).1) nnn fun k hk hm => ?_) _)
      obtain ⟨h1, h2⟩ := List.mem_filter.mp hm
      have kj := of_decide_eq_true h2
      have km := (mem k).mp h1
      rw [if_neg kj] at km
      refine List.mem_filter.mpr ⟨sure_mem.mpr ⟨hk, by omega, by have := lst k h1; omega⟩, h2⟩
  · exfalso
    have : fullB ws z = true := (full_sym ok (by omega)).mpr ⟨m, Int.lt_of_lt_of_le big (ls_more ndS (sure_nodup _) (fun k hk => ((mem k).mp hk).1) (fun k hk => (sure_mem.mp hk).1) nnn fun k hk hm => by
      have kj : k ≠ j := fun e => q (by rw [← e]; exact hm)
      have km := (mem k).mp hm
      rw [if_neg kj] at km
      exact sure_mem.mpr km)⟩
    rw [nl] at this; cases this
/-- what a window that ends at v - 1 shows -/
theorem shown_iff (ok : WsOk ws z) (z0 : 0 < z) (room : Bool) (nl : leafB room ws z = false) (hj : j < ws.length) {v : Int} (h0 : lo ws j < v) (hv : v - 1 ≤ hi ws j) :
    leafB room (cg ws j (lo ws j) (v - 1)) z = true ↔ ∃ s, mxO (startC room ws z j) = some s ∧ v ≤ s := by
  have nl' := nl
  unfold leafB at nl'
  obtain ⟨n1, n23⟩ := Bool.or_eq_false_iff.mp nl'
  obtain ⟨n2, n3⟩ := Bool.or_eq_false_iff.mp n23
  constructor
  · intro h
    have : ∃ s ∈ startC room ws z j, v ≤ s := by
      unfold leafB at h
      unfold startC
      rcases Bool.or_eq_true_iff.mp h with h | h
      · obtain ⟨s, hs, g⟩ := late_of_cg n1 hj hv h
        exact ⟨s, List.mem_append_left _ (List.mem_append_left _ hs), g⟩
      · rcases Bool.or_eq_true_iff.mp h with h | h
        · obtain ⟨s, hs, g⟩ := load_of_cg ok z0 n2 hj (by omega) hv h
          exact ⟨s, List.mem_append_left _ (List.mem_append_right _ hs), g⟩
        · obtain ⟨hr, h⟩ := Bool.and_eq_true_iff.mp h
          subst hr
          rw [Bool.true_and] at n3
          obtain ⟨s, hs, g⟩ := full_of_cg ok z0 n3 hj (by omega) hv h
          exact ⟨s, List.mem_append_right _ hs, g⟩
    obtain ⟨s, hs, g⟩ := this
    have mx := mxO_is (startC room ws z j)
    cases e : mxO (startC room ws z j) with
    | none =>
      rw [e] at mx
      have mx : startC room ws z j = [] := mx
      rw [mx] at hs; cases hs
    | some s' =>
      rw [e] at mx
      have mx : s' ∈ startC room ws z j ∧ ∀ x ∈ startC room ws z j, x ≤ s' := mx
      have := mx.2 s hs
      exact ⟨s', rfl, by omega⟩
  · rintro ⟨s, e, g⟩
    have mx := mxO_is (startC room ws z j)
    rw [e] at mx
    have mx : s ∈ startC room ws z j ∧ ∀ x ∈ startC room ws z j, x ≤ s := mx
    obtain ⟨L, hL, hr⟩ := start_lf ok z0 room hj mx.1
    have ok1 := cg_ok ok hj (a := lo ws j) (b := s - 1) (by omega)
    have ok2 := cg_ok ok hj (a := lo ws j) (b := v - 1) (by omega)
    refine leaf_mono ok1 ok2 (by omega) (by rw [cg_len, cg_len]) (fun k hk => ?_) room (lfOk_leaf ok1 (by omega) hL hr)
    rw [cg_lo hj, cg_lo hj, cg_hi hj, cg_hi hj, cg_ln hj, cg_ln hj, cg_nd hj, cg_nd hj]
    refine ⟨Int.le_refl _, ?_, rfl, rfl⟩
    split <;> omega
/-- the same from below -/
theorem shown_iff2 (ok : WsOk ws z) (z0 : 0 < z) (room : Bool) (nl : leafB room ws z = false) (hj : j < ws.length) {v : Int} (h0 : v < hi ws j) (hv : lo ws j ≤ v + 1) :
    leafB room (cg ws j (v + 1) (hi ws j)) z = true ↔ ∃ s, mxO (startC room (bw ws) z j) = some s ∧ -s - ln ws j ≤ v := by
  have hj2 : j < (bw ws).length := by rw [bw_len]; exact hj
  have okc := cg_ok ok hj (a := v + 1) (b := hi ws j) (by omega)
  rw [← leaf_bw okc (by omega), bw_cg hj]
  have := shown_iff (bw_ok ok) z0 room (by rw [leaf_bw ok (by omega)]; exact nl) hj2 (v := -v - ln ws j) (by rw [bw_lo hj]; omega) (by rw [bw_hi hj]; omega)
  rw [bw_lo hj, show -v - ln ws j - 1 = -(v + 1) - ln ws j by omega] at this
  rw [this]
  refine ⟨fun ⟨s, e, g⟩ => ⟨s, e, by omega⟩, fun ⟨s, e, g⟩ => ⟨s, e, by omega⟩⟩
end
end M60

namespace M60
open PySem PySem.Spec PyProof.Rows L2 SX Own Gd
open C8 (Cal pe_c pe_gc pe_mk Mak pss_cut)
open M12
/-! ### late leaves -/
/-- the first late pair -/
def LateFirst (ws : List Wd) (z : Int) (j l : Nat) : Prop := j < l ∧ l < ws.length ∧ lateP ws z j l ∧ (∀ l', l' < l → ∀ j', j' < l' → ¬ lateP ws z j' l') ∧ ∀ j', j' < j → ¬ lateP ws z j' l
theorem LateFirst.one {ws : List Wd} {z : Int} {j l j' l' : Nat} (a : LateFirst ws z j l) (b : LateFirst ws z j' l') : j = j' ∧ l = l' := by
  obtain ⟨a1, a2, a3, a4, a5⟩ := a
  obtain ⟨b1, b2, b3, b4, b5⟩ := b
  have e : l = l' := by
    by_cases h : l < l'
    · exact absurd a3 (b4 l h j a1)
    · by_cases g : l' < l
      · exact absurd b3 (a4 l' g j' b1)
      · omega
  subst e
  refine ⟨?_, rfl⟩
  by_cases h : j < j'
  · exact absurd a3 (b5 j h)
  · by_cases g : j' < j
    · exact absurd b3 (a5 j' g)
    · omega
def OptS (H : Hp) (v : V) : Option Int → Prop
  | none => v = .non
  | some s => ∃ p xs, v = .ref p ∧ H p = some (.tup (.int s :: xs))
theorem OptS.tk {H H' : Hp} {v : V} {o : Option Int} (h : OptS H v o) (s : TK H H') : OptS H' v o := by
  cases o with
  | none => exact h
  | some x =>
    obtain ⟨p, xs, e, f⟩ := h
    exact ⟨p, xs, e, s _ _ f⟩
def pk2 : Option Int → Option Int → Bool
  | none, _ => true
  | some _, none => false
  | some x, some y => decide (x < y)
theorem mx2_pk (a b : Option Int) : mx2 a b = if pk2 a b = true then b else a := by
  cases a with
  | none => rfl
  | some x =>
    cases b with
    | none => rfl
    | some y =>
      show (if x < y then some y else some x) = if decide (x < y) = true then some y else some x
      by_cases h : x < y <;> simp [h]
theorem iteT' {c : Prop} [Decidable c] {a b : Prop} (hc : c) (h : a) : if c then a else b := by rw [if_pos hc]; exact h
theorem iteF' {c : Prop} [Decidable c] {a b : Prop} (hc : ¬ c) (h : b) : if c then a else b := by rw [if_neg hc]; exact h
section
variable {P : Program} {w : World} {K : PySem.W.Frag} {mg : Str → Option Value} {base : Heap} {aW aT : Addr} {es : Array DictEntry} {nn : Nat}
abbrev s_later_start : Stmt := topS 21
abbrev n_later_start : List Str := ["one", "other"]
theorem sc_later_start : FnScope n_later_start ["one", "other"] (defScope s_later_start) := ⟨rfl, rfl, rfl, by decide +kernel, rfl, by decide +kernel, by decide +kernel⟩
def spLater : Sp := fun vs H Q _ => ∃ (v1 v2 : V) (o1 o2 : Option Int), vs = [v1, v2] ∧ OptS H v1 o1 ∧ OptS H v2 o2 ∧ Q (if pk2 o1 o2 = true then v2 else v1) H
theorem ok_later_start {f : Addr} {fd : FuncData} (F : Fun K "later_start" "later_start" s_later_start f fd) : FnOk P w K mg base CX0 1 f fd ["one", "other"] spLater := by
  refine F.ok sc_later_start (fun vs H Q E h => ?_) (fun cdv A outer s H vs Q E hr h => ?_)
  · obtain ⟨v1, v2, o1, o2, rfl, _⟩ := h
    rfl
  · obtain ⟨v1, v2, o1, o2, rfl, h1, h2, q⟩ := h
    refine ⟨_, (pss_cons (ps_if (PW.pt (pw_or (pt_cmpR op_isN (pv 0) pe_non (nomark _)) (pw_or1 (PW.pt (pw_and (pt_cmpR op_notN (pv 1) pe_non (nomark _)) (pw_and1 (pt_cmpR op_gt (pe_ix ix_tup (pv 1) pe_int (fun _ _ => rfl)) (pe_ix ix_tup (pv 0) pe_int (fun _ _ => rfl)) (nomark _)))))))) (pss_one (ps_ret (pv 1))) pss_nil)
      (pss_one (ps_ret (pv 0)))), ?_⟩
    cases o1 with
    | none =>
      cases h1
      exact ⟨_, rfl, rfl, _, rfl, iteT' (decide_eq_true rfl) ⟨_, rfl, q⟩⟩
    | some x =>
      obtain ⟨p, xs, rfl, hp⟩ := h1
      refine ⟨_, rfl, rfl, _, rfl, iteF' (by simp) ?_⟩
      cases o2 with
      | none =>
        cases h2
        exact ⟨_, rfl, rfl, _, rfl, iteF' (by simp) ⟨_, rfl, q⟩⟩
      | some y =>
        obtain ⟨p2, xs2, rfl, hp2⟩ := h2
        refine ⟨_, rfl, rfl, _, rfl, iteT' (by simp) ⟨_, rfl, p2, _, 0, _, rfl, rfl, sq_tup hp2, atI_nat (j := 0) rfl, _, rfl, p, _, 0, _, rfl, rfl, sq_tup hp, atI_nat (j := 0) rfl, _, _, rfl, rfl, _, rfl, ?_⟩⟩
        have q : Q (if decide (x < y) = true then .ref p2 else .ref p) H := q
        refine ite2 (fun hc => ?_) (fun hc => ?_)
        · rw [if_pos hc] at q; exact ⟨_, rfl, q⟩
        · rw [if_neg hc] at q; exact ⟨_, rfl, q⟩
abbrev s_late_leaf : Stmt := topS 14
abbrev n_late_leaf : List Str := ["k", "windows", "size", "later", "job", "one", "other"]
theorem sc_late_leaf : FnScope n_late_leaf ["k", "windows", "size"] (defScope s_late_leaf) := ⟨rfl, rfl, rfl, by decide +kernel, rfl, by decide +kernel, by decide +kernel⟩
def spLate : Sp := fun vs H Q _ => ∃ (k z : Int) (pw : Addr) (us : List V) (ws : List Wd), vs = [.int k, .ref pw, .int z] ∧ H pw = some (.tup us) ∧ All2 (WdV H) us ws ∧ ws.length ≤ 100 ∧ (lateB ws z = true → ∀ v j l H', Same H H' → LateFirst ws z j l → LfV k H' v (.late j l) → Q v H') ∧ (lateB ws z = false → ∀ H', Same H H' → Q .non H')
theorem ok_late_leaf {f : Addr} {fd : FuncData} (F : Fun K "late_leaf" "late_leaf" s_late_leaf f fd) (T : Txt K mg w aW aT es nn) : FnOk P w K mg base CX0 1 f fd ["k", "windows", "size"] spLate := by
  refine F.ok sc_late_leaf (fun vs H Q E h => ?_) (fun cdv A outer s H vs Q E hr h => ?_)
  · obtain ⟨k, z, pw, us, ws, rfl, _⟩ := h
    rfl
  · obtain ⟨k, z, pw, us, ws, rfl, hp, lv, few, q1, q2⟩ := h
    have lus := lv.len
    refine ⟨_, (pss_cons (ps_for PassesOwn.never rfl (pi_range1 (by rfl) T.b_range (pa_cons (pe_callB call_len_seq (by rfl) T.b_len (by decide +kernel) (pa_cons (pv 1) pa_nil)) pa_nil)) (pg_name (i := 3) sc_late_leaf.nd rfl (.inl rfl)) (pss_one (ps_for PassesOwn.never rfl (pi_range1 (by rfl) T.b_range (pa_cons (pv 3) pa_nil)) (pg_name (i := 4) sc_late_leaf.nd rfl (.inl rfl)) (pss_cons (ps_par (i := 5) (j := 6) (by rfl) sc_late_leaf.nd rfl rfl (by decide) rfl rfl (pa_cons (pe_ix ix_tup (pv 1) (pv 4) (fun _ _ => rfl)) (pa_cons (pe_ix ix_tup (pv 1) (pv 3) (fun _ _ => rfl)) pa_nil)) (by rfl))
          (pss_one (ps_if (PW.pt (pw_and (pt_cmpR op_gt (pe_op op_add (pe_ix ix_tup (pv 5) pe_int (fun _ _ => rfl)) (pe_ix ix_tup (pv 6) pe_int (fun _ _ => rfl))) (pv 2) (nomark _)) (pw_and (pt_cmpR op_gt (pe_op op_add (pe_ix ix_tup (pv 5) pe_int (fun _ _ => rfl)) (pe_ix ix_tup (pv 5) pe_int (fun _ _ => rfl))) (pe_ix ix_tup (pv 6) pe_int (fun _ _ => rfl)) (nomark _)) (pw_and1 (pt_cmpR op_gt (pe_op op_add (pe_ix ix_tup (pv 6) pe_int (fun _ _ => rfl)) (pe_ix ix_tup (pv 6) pe_int (fun _ _ => rfl))) (pe_ix ix_tup (pv 5) pe_int (fun _ _ => rfl)) (nomark _)))))) (pss_one (ps_ret (pe_tup (pa_cons pe_str (pa_cons (pv 0) (pa_cons (pv 4) (pa_cons (pv 3) pa_nil))))))) pss_nil))))))
      (pss_one (ps_ret pe_non))), ?_⟩
    refine ⟨_, rfl, pw, us, rfl, .inr (sq_tup hp), us.length, rfl, by omega, by omega, for_range (lo := 0) (n := (us.length : Int).toNat) (fun i σ H' => ∃ y3 y4 y5 y6, σ = [some (.int k), some (.ref pw), some (.int z), y3, y4, y5, y6] ∧ H = H' ∧ ∀ l, l < i → ∀ j, j < l → ¬ lateP ws z j l)
      ⟨none, none, none, none, rfl, rfl, fun l hl => absurd hl (Nat.not_lt_zero _)⟩ (fun i σ H' hi hI => ?_) (fun σ H' hI => ?_)⟩
    · obtain ⟨y3, y4, y5, y6, rfl, rfl, no⟩ := hI
      rw [Int.toNat_natCast] at hi
      refine ⟨_, rfl, _, rfl, by omega, by omega, for_range (lo := 0) (n := ((0 : Int) + (i : Nat)).toNat) (fun j σ H' => ∃ y4 y5 y6, σ = [some (.int k), some (.ref pw), some (.int z), some (.int (0 + (i : Nat))), y4, y5, y6] ∧ H = H' ∧ ∀ l, l < j → ¬ lateP ws z l i)
        ⟨y4, y5, y6, rfl, rfl, fun l hl => absurd hl (Nat.not_lt_zero _)⟩ (fun j σ H' hj hI => ?_) (fun σ H' hI => ?_)⟩
      · obtain ⟨y4, y5, y6, rfl, rfl, no2⟩ := hI
        have hji : j < i := by omega
        rw [show ((0 : Int) + (i : Nat)) = (i : Int) by omega, show ((0 : Int) + (j : Nat)) = (j : Int) by omega]
        have nxt : ¬ lateP ws z j i → ∀ l, l < j + 1 → ¬ lateP ws z l i := fun h l hl => by
          rcases Nat.lt_or_eq_of_le (Nat.le_of_lt_succ hl) with g | g
          · exact no2 l g
          · subst g; exact h
        obtain ⟨p1, u1, h1⟩ := wd_at lv (k := j) (by omega)
        obtain ⟨p2, u2, h2⟩ := wd_at lv (k := i) (by omega)
        refine ⟨_, rfl, _, rfl, pw, _, (j : Int), _, rfl, rfl, sq_tup hp, atI_nat u1, _, rfl, _, rfl, pw, _, (i : Int), _, rfl, rfl, sq_tup hp, atI_nat u2, _, _, rfl, ?_⟩
        refine ⟨_, rfl, p1, _, 3, _, rfl, rfl, sq_tup h1, rfl, _, rfl, p2, _, 3, _, rfl, rfl, sq_tup h2, rfl, _, _, rfl, rfl, _, rfl, _, _, rfl, rfl, _, rfl, ite2 (fun c1 => ?_) (fun c1 => ?_)⟩
        · refine ⟨_, rfl, p1, _, 0, _, rfl, rfl, sq_tup h1, rfl, _, rfl, p1, _, 2, _, rfl, rfl, sq_tup h1, rfl, _, _, rfl, rfl, _, rfl, p2, _, 1, _, rfl, rfl, sq_tup h2, rfl, _, _, rfl, rfl, _, rfl, ite2 (fun c2 => ?_) (fun c2 => ?_)⟩
          · refine ⟨_, rfl, p2, _, 0, _, rfl, rfl, sq_tup h2, rfl, _, rfl, p2, _, 2, _, rfl, rfl, sq_tup h2, rfl, _, _, rfl, rfl, _, rfl, p1, _, 1, _, rfl, rfl, sq_tup h1, rfl, _, _, rfl, rfl, _, rfl, ite2 (fun c3 => ?_) (fun c3 => ?_)⟩
            · have c1 := of_decide_eq_true c1; have c2 := of_decide_eq_true c2; have c3 := of_decide_eq_true c3
              have lb : lateB ws z = true := late_iff.mpr ⟨j, i, hji, by omega, c1, c2, c3⟩
              refine ⟨_, rfl, _, rfl, _, rfl, len4, fun t nt => ?_⟩
              exact q1 lb _ j i _ (same_upd nt) ⟨hji, by omega, ⟨c1, c2, c3⟩, no, no2⟩ ⟨t, rfl, upd_same⟩
            · exact ⟨_, _, _, rfl, rfl, nxt fun p => c3 (decide_eq_true p.2.2)⟩
          · exact ⟨_, _, _, rfl, rfl, nxt fun p => c2 (decide_eq_true p.2.1)⟩
        · exact ⟨_, _, _, rfl, rfl, nxt fun p => c1 (decide_eq_true p.1)⟩
      · obtain ⟨y4, y5, y6, rfl, rfl, no2⟩ := hI
        refine ⟨_, _, _, _, rfl, rfl, fun l hl j hj => ?_⟩
        rcases Nat.lt_or_eq_of_le (Nat.le_of_lt_succ hl) with g | g
        · exact no l g j hj
        · subst g; exact no2 j (by omega)
    · obtain ⟨y3, y4, y5, y6, rfl, rfl, no⟩ := hI
      rw [Int.toNat_natCast] at no
      refine q2 ?_ _ (Same.refl _)
      cases lb : lateB ws z with
      | false => rfl
      | true =>
        obtain ⟨j, l, jl, hl, p⟩ := late_iff.mp lb
        exact absurd p (no l (by omega) j jl)
end
end M60

namespace M60
open PySem PySem.Spec PyProof.Rows L2 SX Own Gd
open C8 (Cal pe_c pe_gc pe_mk Mak pss_cut)
open M12
theorem walk_enT {K : PySem.W.Frag} {a : Addr} {xs : List V} : Walk (ItE K a) xs.length (fun H => SqT K H a xs) (YPair (fun i => some (.int (i : Nat))) (fun i => xs[i]?)) := by
  refine ⟨fun i _ hi q => ⟨xs, xs[i], q, by simp [hi]⟩, fun _ q => ⟨xs, q, rfl⟩, fun i H v H' _ q y => ?_⟩
  obtain ⟨T, x, h1, h2, h3, h4⟩ := y
  exact ⟨T, .int (i : Nat), x, h1, h2, h3, rfl, h4 xs q⟩
theorem TK.ext {H H' : Hp} (s : LamX.ExtN H H') : TK H H' := fun a xs e => s _ _ e (fun ps z => by cases z)
/-- a step with code tables -/
structure Xt (T0 : List (Addr × Str)) (H H' : Hp) : Prop where
  e : LamX.ExtN H H'
  t : LamX.Tabs T0 H'
theorem Xt.refl {T0 : List (Addr × Str)} {H : Hp} (t : LamX.Tabs T0 H) : Xt T0 H H := ⟨.refl _, t⟩
theorem Xt.trans {T0 : List (Addr × Str)} {H H1 H2 : Hp} (x : Xt T0 H H1) (y : Xt T0 H1 H2) : Xt T0 H H2 := ⟨x.e.trans y.e, y.t⟩
theorem Xt.same {T0 : List (Addr × Str)} {H H1 H2 : Hp} (x : Xt T0 H H1) (s : Same H1 H2) : Xt T0 H H2 := ⟨x.e.trans (ext_of s), fun p hp => (x.t p hp).ext s⟩
theorem Xt.new {T0 : List (Addr × Str)} {H H1 : Hp} {p : Addr} {o : HO} (x : Xt T0 H H1) (n : H1 p = none) : Xt T0 H (upd H1 p o) := x.same (same_upd n)
theorem Xt.tk {T0 : List (Addr × Str)} {H H1 : Hp} (x : Xt T0 H H1) : TK H H1 := TK.ext x.e
theorem Xt.lst {T0 : List (Addr × Str)} {H H1 : Hp} (x : Xt T0 H H1) {p : Addr} {xs : List V} (h : H p = some (.lst xs)) : H1 p = some (.lst xs) := x.e _ _ h fun ps z => by cases z
theorem tab_put {T0 : List (Addr × Str)} {H : Hp} {D : Addr} {xs ys : List V} (t : LamX.Tabs T0 H) (e : H D = some (.lst xs)) : LamX.Tabs T0 (upd H D (.lst ys)) := fun p hp => by
  obtain ⟨ps, h1, h2, h3⟩ := t p hp
  refine ⟨ps, by rw [upd_ne (Own.ne_of h1 e (by intro z; cases z))]; exact h1, h2, fun pos cv hc => ?_⟩
  obtain ⟨c, e1, e2⟩ := h3 pos cv hc
  exact ⟨c, e1, by rw [upd_ne (Own.ne_of e2 e codeO_lst)]; exact e2⟩
theorem Xt.put {T0 : List (Addr × Str)} {H H1 H2 : Hp} {D : Addr} {xs ys : List V} (x : Xt T0 H H1) (n : H1 D = none) (y : Xt T0 H H2) (e : H2 D = some (.lst xs)) : Xt T0 H (upd H2 D (.lst ys)) := by
  refine ⟨fun b o z n3 => ?_, tab_put y.t e⟩
  have := x.e b o z n3
  rw [upd_ne (fun u => by rw [u, n] at this; cases this)]
  exact y.e b o z n3
def natI (l : List Nat) : List Int := l.map fun k : Nat => (k : Int)
theorem natI_app (a b : List Nat) : natI (a ++ b) = natI a ++ natI b := List.map_append
theorem natI_len (l : List Nat) : (natI l).length = l.length := List.length_map _
def tL (a : List Int) : HO := .lst (a.map V.int)
theorem tL_app (a : List Int) (c : Int) : tL (a ++ [c]) = .lst (a.map V.int ++ [.int c]) := by unfold tL; rw [List.map_append]; rfl
theorem filter_range_succ {p : Nat → Bool} {i : Nat} : (List.range (i + 1)).filter p = (List.range i).filter p ++ if p i = true then [i] else [] := by
  rw [List.range_succ, List.filter_append]
  by_cases e : p i = true
  · rw [if_pos e]; simp [e]
  · rw [if_neg e]; simp [e]
theorem filt_len (p : Nat → Bool) (i : Nat) : ((List.range i).filter p).length ≤ i := Nat.le_trans (List.length_filter_le ..) (by rw [List.length_range]; exact Nat.le_refl _)
theorem wd_is {ws : List Wd} {i : Nat} {d : Wd} (h : ws[i]? = some d) : gW ws i = d := by unfold gW; rw [List.getD_eq_getElem?_getD, h]; rfl
def keyE (ws : List Wd) (i : Int) : PyData := .tuple [.int (en ws i.toNat), .int i]
theorem sortE {ws : List Wd} (f : Int) : ((natI (inF ws f)).mergeSort (PySem.W.dataLe false (keyE ws))) = natI (ordF ws f) := by
  generalize hs : (natI (inF ws f)).mergeSort (PySem.W.dataLe false (keyE ws)) = l
  have pm : l.Perm (natI (inF ws f)) := by rw [← hs]; exact List.mergeSort_perm _ _
  have le : PySem.W.dataLe false (keyE ws) = fun p q => decide (en ws p.toNat < en ws q.toNat ∨ (en ws p.toNat = en ws q.toNat ∧ p ≤ q)) := PySem.W.dataLe_ii (β := Int) (fun i : Int => en ws i.toNat) (fun i : Int => i)
  have so : l.Pairwise fun p q => PySem.W.dataLe false (keyE ws) p q = true := by
    rw [← hs]
    exact List.pairwise_mergeSort (fun a b c h1 h2 => by
      rw [le] at *
      simp only [decide_eq_true_eq] at *
      omega) (fun a b => by
      rw [le]
      simp only [Bool.or_eq_true, decide_eq_true_eq]
      omega) _
  have nn : ∀ i ∈ l, 0 ≤ i := fun i hi => by
    obtain ⟨k, _, rfl⟩ := List.mem_map.mp (pm.mem_iff.mp hi)
    exact Int.natCast_nonneg k
  have el : l = natI (l.map Int.toNat) := by
    unfold natI
    rw [List.map_map]
    conv => lhs; rw [← List.map_id l]
    refine List.map_congr_left fun i hi => ?_
    have := nn i hi
    show i = ((i.toNat : Nat) : Int)
    omega
  rw [el]
  congr 1
  refine ord_is ?_ ?_
  · have := pm.map Int.toNat
    unfold natI at this
    rw [List.map_map] at this
    have e : (inF ws f).map (Int.toNat ∘ fun k : Nat => (k : Int)) = inF ws f := by
      conv => rhs; rw [← List.map_id (inF ws f)]
      exact List.map_congr_left fun _ _ => rfl
    rw [e] at this; exact this
  · rw [List.pairwise_map]
    refine List.Pairwise.imp_of_mem (fun {a b} ha hb h => ?_) so
    have na := nn a ha
    have nb := nn b hb
    rw [le] at h
    have := of_decide_eq_true h
    unfold leE
    rw [decide_eq_true_eq]
    omega
def withP (ws : List Wd) (f t : Int) (k : Nat) : Bool := decide (f ≤ lo ws k ∧ en ws k ≤ t)
def withL (ws : List Wd) (f t : Int) : List Nat := (List.range ws.length).filter (withP ws f t)
section
variable {P : Program} {w : World} {K : PySem.W.Frag} {mg : Str → Option Value} {base : Heap} {aW aT : Addr} {es : Array DictEntry} {nn : Nat}
abbrev s_jobs_from : Stmt := topS 16
abbrev n_jobs_from : List Str := ["windows", "first", "jobs", "job", "window"]
theorem sc_jobs_from : FnScope n_jobs_from ["windows", "first"] (defScope s_jobs_from) := ⟨rfl, rfl, rfl, by decide +kernel, rfl, by decide +kernel, by decide +kernel⟩
abbrev qF : Str := (envOfC "jobs_from" (defScope s_jobs_from) 0 0 .none).qual ++ "<lambda>"
def spFrom (T0 : List (Addr × Str)) : Sp := fun vs H Q _ => ∃ (pw : Addr) (us : List V) (ws : List Wd) (f : Int), vs = [.ref pw, .int f] ∧ H pw = some (.tup us) ∧ All2 (WdV H) us ws ∧ ws.length ≤ 100 ∧ LamX.Tabs T0 H ∧ ∀ p H', Xt T0 H H' → (∀ b xs, H b = some (.lst xs) → b ≠ p) → H' p = some (tL (natI (ordF ws f))) → Q (.ref p) H'
theorem ok_jobs_from {f c PA : Addr} {T0 : List (Addr × Str)} {fd : FuncData} (F : FunC K "jobs_from" "jobs_from" s_jobs_from f fd c) (TB : LamX.TabB base mg c PA) (HM : (PA, qF) ∈ T0) (HU : ∀ p ∈ T0, p.1 = PA → p.2 = qF) (T : Txt K mg w aW aT es nn) (c_end_of : Cal P w K mg base 1 "end_of" spEnd []) : FnOk P w K mg base CX0 8 f fd ["windows", "first"] (spFrom T0) := by
  refine F.ok sc_jobs_from (fun vs H Q E h => ?_) (fun A outer s0 H vs Q E hr h => ?_)
  · obtain ⟨pw, us, ws, f, rfl, _⟩ := h
    rfl
  · obtain ⟨pw, us, ws, f, rfl, hp, lv, few, tt, q⟩ := h
    have lus := lv.len
    refine ⟨_, (pss_cons (ps_setLc (i := 2) (own := [("job", 3), ("window", 4)]) (g := (gTup K 2 (gCons (gName 3) (gCons (gName 4) gNil)))) rfl sc_jobs_from.nd rfl rfl (sw_true rfl rfl rfl (by decide +kernel)) (pi_enT (by rfl) T.b_enumerate (pa_cons (pv 0) pa_nil)) (blkOk_by (N := n_jobs_from) (sc := defScope s_jobs_from) (by decide +kernel)) (fun _ _ _ _ _ => (pg_tup rfl (pgs_cons (pg_name (i := 3) sc_jobs_from.nd rfl (.inl rfl)) (pgs_cons (pg_name (i := 4) sc_jobs_from.nd rfl (.inl rfl)) pgs_nil)))) (fun _ _ _ _ _ => (pts_one (pt_cmpR op_ge (pe_ix (r := rIxT K) ix_tup (pv 4) pe_int (fun _ _ => rfl)) (pv 1) (nomark _)))) (fun _ _ _ _ _ => (pv 3)))
      (pss_one (ps_ret (SrK.pe_sortL (j := 2) (a := "at") (T := T0) (pv 2) (by rfl) T.b_sorted TB rfl HM HU (hr.mono (by decide)) (SrK.lamP_by (sc := defScope s_jobs_from) (by decide +kernel)) (show ¬ (("at" : Str) ∈ n_jobs_from) by decide +kernel) rfl (fun _ _ _ _ _ _ => rfl) (fun s' H' f' c' hr' => pe_tup (pa_cons (pe_c c_end_of hr' (by decide) (by rfl) (pa_cons (pe_ix (r := rIxT K) ix_tup (pv 1) (pv 0) (fun _ _ => rfl)) pa_nil)) (pa_cons (pv 0) pa_nil))))))), ?_⟩
    refine ⟨_, rfl, pw, _, rfl, sq_tup hp, fun D nD => ?_⟩
    refine lc_it walk_enT (fun i H' => H' D = some (tL (natI ((List.range i).filter fun j => decide (f ≤ lo ws j)))) ∧ Same H H') ⟨upd_same, same_upd nD⟩ (fun i H' _ h => sq_tup (h.2 _ _ hp)) ?_ ?_
    · rintro i x1 H2 H3 hi ⟨hD, sm⟩ ⟨T', k1, w1, rfl, nT, rfl, hk1, hw⟩
      cases hk1
      obtain ⟨d, hd, pd, rfl, hpd⟩ := lv.at_ hw
      have sT := same_at (o := .tup [.int (i : Nat), .ref pd]) sm (sm.free nT)
      have hDT : upd H2 T' (.tup [.int (i : Nat), .ref pd]) D = some _ := same_upd nT _ _ hD
      have lf := filt_len (fun j => decide (f ≤ lo ws j)) i
      refine ⟨T', _, rfl, sq_tup upd_same, rfl, _, _, rfl, _, _, rfl, rfl, rfl, ?_⟩
      have el : lo ws i = d.1 := by unfold lo; rw [wd_is hd]
      refine ⟨_, rfl, pd, _, 0, _, rfl, rfl, sq_tup (sT _ _ hpd), rfl, _, rfl, _, _, rfl, rfl, _, rfl, ite2 (fun c1 => ?_) (fun c1 => ?_)⟩
      · refine ⟨_, rfl, _, hDT, by rw [List.length_map, natI_len]; exact small1000 (by have := (List.getElem?_eq_some_iff.mp hd).1; omega), ?_, same_at sT nD⟩
        rw [upd_same, filter_range_succ, if_pos (by rw [el]; exact c1), natI_app]
        exact congrArg some (tL_app _ _).symm
      · refine ⟨?_, sT⟩
        rw [hDT, filter_range_succ, if_neg (by rw [el]; exact c1), List.append_nil]
    · rintro H2 ⟨hD, sm⟩
      rw [lus] at hD
      refine ⟨_, rfl, natI (inF ws f), .lst hD, fun p hp => (tt p hp).ext sm, fun H5 e5 t5 => ⟨keyE ws, PySem.W.AllAlike.of fun _ _ => by simp [keyE, PySem.W.alike, PySem.W.alikeAll], PySem.W.Sortable.tuples fun _ => ⟨_, _, rfl⟩, fun d hd => ?_, fun i hi H6 s6 => ?_, fun H6 ps s6 nps => ?_⟩⟩
      · obtain ⟨i, _, rfl⟩ := List.mem_map.mp hd
        simp [keyE, PyData.depth, PyData.depthAll]
      · obtain ⟨k, hk, rfl⟩ := List.mem_map.mp hi
        have hk := List.mem_range.mp (List.mem_filter.mp hk).1
        obtain ⟨pd, hu, hpd⟩ := wd_at lv hk
        have tk := (TK.of sm).trans ((TK.ext e5).trans (TK.of s6))
        refine ⟨_, rfl, _, rfl, pw, us, (k : Int), _, rfl, rfl, sq_tup (tk _ _ hp), atI_nat hu, .ref pd, (lo ws k, M60.hi ws k, ln ws k, nd ws k), rfl, ⟨pd, rfl, tk _ _ hpd⟩, _, rfl, len2, fun t nt => ⟨same_upd nt, ?_⟩⟩
        exact .tup (sq_tup upd_same) (.cons (.int _) (.cons (.int _) .nil))
      · rw [sortE]
        have x0 : Xt T0 H H6 := ((Xt.refl tt).same sm).trans (Xt.mk e5 t5) |>.same s6
        exact q ps _ (x0.new nps) (fun b xs hb e => by rw [e] at hb; rw [x0.lst hb] at nps; cases nps) upd_same
abbrev s_jobs_within : Stmt := topS 17
abbrev n_jobs_within : List Str := ["windows", "first", "last", "inner", "job", "window"]
theorem sc_jobs_within : FnScope n_jobs_within ["windows", "first", "last"] (defScope s_jobs_within) := ⟨rfl, rfl, rfl, by decide +kernel, rfl, by decide +kernel, by decide +kernel⟩
def spWithin : Sp := fun vs H Q _ => ∃ (pw : Addr) (us : List V) (ws : List Wd) (f t : Int), vs = [.ref pw, .int f, .int t] ∧ H pw = some (.tup us) ∧ All2 (WdV H) us ws ∧ ws.length ≤ 100 ∧ ∀ p H', Same H H' → H' p = some (tI (natI (withL ws f t))) → Q (.ref p) H'
theorem ok_jobs_within {f : Addr} {fd : FuncData} (F : Fun K "jobs_within" "jobs_within" s_jobs_within f fd) (T : Txt K mg w aW aT es nn) (c_end_of : Cal P w K mg base 1 "end_of" spEnd []) : FnOk P w K mg base CX0 2 f fd ["windows", "first", "last"] spWithin := by
  refine F.ok sc_jobs_within (fun vs H Q E h => ?_) (fun cdv A outer s0 H vs Q E hr h => ?_)
  · obtain ⟨pw, us, ws, f, t, rfl, _⟩ := h
    rfl
  · obtain ⟨pw, us, ws, f, t, rfl, hp, lv, few, q⟩ := h
    have lus := lv.len
    refine ⟨_, (pss_cons (ps_setLc (i := 3) (own := [("job", 4), ("window", 5)]) (g := (gTup K 2 (gCons (gName 4) (gCons (gName 5) gNil)))) rfl sc_jobs_within.nd rfl rfl (sw_true rfl rfl rfl (by decide +kernel)) (pi_enT (by rfl) T.b_enumerate (pa_cons (pv 0) pa_nil)) (blkOk_by (N := n_jobs_within) (sc := defScope s_jobs_within) (by decide +kernel)) (fun _ _ _ _ _ => (pg_tup rfl (pgs_cons (pg_name (i := 4) sc_jobs_within.nd rfl (.inl rfl)) (pgs_cons (pg_name (i := 5) sc_jobs_within.nd rfl (.inl rfl)) pgs_nil)))) (fun _ _ _ _ _ => (pts_one (PW.pt (pw_and (pt_cmpR op_ge (pe_ix (r := rIxT K) ix_tup (pv 5) pe_int (fun _ _ => rfl)) (pv 1) (nomark _)) (pw_and1 (pt_cmpR op_le (pe_c c_end_of hr (by decide) (by rfl) (pa_cons (pv 5) pa_nil)) (pv 2) (nomark _))))))) (fun _ _ _ _ _ => (pv 4)))
      (pss_one (ps_ret (pe_callTy call_tuple_of (by rfl) T.b_tuple (by decide +kernel) (pa_cons (pv 3) pa_nil))))), ?_⟩
    refine ⟨_, rfl, pw, _, rfl, sq_tup hp, fun D nD => ?_⟩
    refine lc_it walk_enT (fun i H' => H' D = some (tL (natI ((List.range i).filter (withP ws f t)))) ∧ Same H H') ⟨upd_same, same_upd nD⟩ (fun i H' _ h => sq_tup (h.2 _ _ hp)) ?_ ?_
    · rintro i x1 H2 H3 hi ⟨hD, sm⟩ ⟨T', k1, w1, rfl, nT, rfl, hk1, hw⟩
      cases hk1
      obtain ⟨d, hd, pd, rfl, hpd⟩ := lv.at_ hw
      have sT := same_at (o := .tup [.int (i : Nat), .ref pd]) sm (sm.free nT)
      have hDT : upd H2 T' (.tup [.int (i : Nat), .ref pd]) D = some _ := same_upd nT _ _ hD
      have lf := filt_len (withP ws f t) i
      have li := (List.getElem?_eq_some_iff.mp hd).1
      refine ⟨T', _, rfl, sq_tup upd_same, rfl, _, _, rfl, _, _, rfl, rfl, rfl, ?_⟩
      have el : withP ws f t i = decide (f ≤ d.1 ∧ d.2.1 + d.2.2.1 ≤ t) := by unfold withP lo en M60.hi ln; rw [wd_is hd]
      refine ⟨_, rfl, pd, _, 0, _, rfl, rfl, sq_tup (sT _ _ hpd), rfl, _, rfl, _, _, rfl, rfl, _, rfl, ite2 (fun c1 => ?_) (fun c1 => ?_)⟩
      · refine ⟨_, rfl, .ref pd, d, rfl, ⟨pd, rfl, sT _ _ hpd⟩, _, rfl, _, _, rfl, rfl, _, rfl, ite2 (fun c2 => ?_) (fun c2 => ?_)⟩
        · refine ⟨_, rfl, _, hDT, by rw [List.length_map, natI_len]; exact small1000 (by omega), ?_, same_at sT nD⟩
          rw [upd_same, filter_range_succ, el, if_pos (decide_eq_true ⟨of_decide_eq_true c1, of_decide_eq_true c2⟩), natI_app]
          exact congrArg some (tL_app _ _).symm
        · refine ⟨?_, sT⟩
          rw [hDT, filter_range_succ, el, if_neg (fun z => c2 (decide_eq_true (of_decide_eq_true z).2)), List.append_nil]
      · refine ⟨?_, sT⟩
        rw [hDT, filter_range_succ, el, if_neg (fun z => c1 (decide_eq_true (of_decide_eq_true z).1)), List.append_nil]
    · rintro H2 ⟨hD, sm⟩
      rw [lus] at hD
      refine ⟨_, rfl, D, _, rfl, .inl ⟨sq_lst hD, fun t nt => ?_⟩⟩
      exact q t _ (sm.trans (same_upd nt)) upd_same
end
end M60

namespace M60
open PySem PySem.Spec PyProof.Rows L2 SX Own Gd
open C8 (Cal pe_c pe_gc pe_mk Mak pss_cut)
open M12
/-! ### loads -/
structure WsB (ws : List Wd) (z : Int) : Prop where
  ok : WsOk ws z
  few : ws.length ≤ 20
  lb : ∀ k, k < ws.length → ln ws k ≤ 1000000
  z1 : 1 ≤ z
  zb : z ≤ 1000000
def lows (ws : List Wd) : List Int := ws.map (·.1)
theorem ixSet {ns : List Int} {k : Int} : (decide (k ∈ ns) = true) ↔ k ∈ ns := decide_eq_true_iff
theorem load_off {ws : List Wd} {z : Int} {fs : List Int} (h : ∀ k : Int, k ∈ fs ↔ k ∈ lows ws) (no : ∀ (i : Nat) (f : Int), fs[i]? = some f → ldScan ws z f (ordF ws f) 0 = false) : loadB ws z = false := by
  unfold loadB
  rw [List.any_eq_false]
  intro w hw
  have : w.1 ∈ fs := (h _).mpr (List.mem_map.mpr ⟨w, hw, rfl⟩)
  obtain ⟨i, hi⟩ := List.mem_iff_getElem?.mp this
  rw [no i _ hi]; decide
theorem load_on {ws : List Wd} {z : Int} {f : Int} (h : f ∈ lows ws) (y : ldScan ws z f (ordF ws f) 0 = true) : loadB ws z = true := by
  unfold loadB
  obtain ⟨w, hw, rfl⟩ := List.mem_map.mp h
  exact List.any_eq_true.mpr ⟨w, hw, y⟩
theorem nat_at {l : List Nat} {i : Nat} {x : V} (h : ((natI l).map V.int)[i]? = some x) : ∃ k, l[i]? = some k ∧ x = .int (k : Int) := by
  unfold natI at h
  rw [List.map_map, List.getElem?_map] at h
  obtain ⟨k, hk, e⟩ := Option.map_eq_some_iff.mp h
  exact ⟨k, hk, e.symm⟩
theorem drop_at {l : List Nat} {i k : Nat} (h : l[i]? = some k) : l.drop i = k :: l.drop (i + 1) := by
  rw [List.drop_eq_getElem_cons (List.getElem?_eq_some_iff.mp h).1, (List.getElem?_eq_some_iff.mp h).2]
/-! ### the load's leaf, to the letter -/
def scanX (ws : List Wd) (z f : Int) : List Nat → Int → Option Int
  | [], _ => none
  | a :: r, w => if z * (en ws a - f) < w + wk ws a then some (en ws a) else scanX ws z f r (w + wk ws a)
def loadX (ws : List Wd) (z : Int) : List Int → Option (Int × Int)
  | [] => none
  | f :: fs => match scanX ws z f (ordF ws f) 0 with
    | some l => some (f, l)
    | none => loadX ws z fs
def LdV (ws : List Wd) (k : Int) (H : Hp) (v : V) : Option (Int × Int) → Prop
  | none => v = .non
  | some x => ∃ p j, v = .ref p ∧ H p = some (.tup [.str "load", .int k, .ref j, .int x.1, .int x.2]) ∧ H j = some (tI (natI (withL ws x.1 x.2)))
theorem LdV.tk {ws : List Wd} {k : Int} {H H' : Hp} {v : V} {o : Option (Int × Int)} (h : LdV ws k H v o) (s : TK H H') : LdV ws k H' v o := by
  cases o with
  | none => exact h
  | some x =>
    obtain ⟨p, j, e, a, b⟩ := h
    exact ⟨p, j, e, s _ _ a, s _ _ b⟩
/-- the lows, ascending -/
def IsLows (ws : List Wd) (fs : List Int) : Prop := fs.Pairwise (· < ·) ∧ ∀ k : Int, k ∈ fs ↔ k ∈ lows ws
theorem loadX_drop {ws : List Wd} {z f : Int} {fs : List Int} {i : Nat} (h : fs[i]? = some f) : loadX ws z (fs.drop i) = match scanX ws z f (ordF ws f) 0 with | some l => some (f, l) | none => loadX ws z (fs.drop (i + 1)) := by
  obtain ⟨hi, e⟩ := List.getElem?_eq_some_iff.mp h
  rw [List.drop_eq_getElem_cons hi, e]; rfl
theorem scanX_some {ws : List Wd} {z f l : Int} : ∀ (r P : List Nat) (w : Int), ordF ws f = P ++ r → w = ls (wk ws) P → scanX ws z f r w = some l → ∃ P' a R, ordF ws f = P' ++ a :: R ∧ l = en ws a ∧ z * (en ws a - f) < ls (wk ws) (P' ++ [a])
  | [], _, _, _, _, h => by cases h
  | a :: r, P, w, e, ew, h => by
    unfold scanX at h
    by_cases c : z * (en ws a - f) < w + wk ws a
    · rw [if_pos c] at h
      cases h
      exact ⟨P, a, r, e, rfl, by rw [ls_app]; simp only [ls]; rw [← ew]; omega⟩
    · rw [if_neg c] at h
      exact scanX_some r (P ++ [a]) (w + wk ws a) (by rw [e, List.append_assoc]; rfl) (by rw [ls_app, ew]; simp only [ls]; omega) h
theorem scanX_none {ws : List Wd} {z f : Int} : ∀ (r P : List Nat) (w : Int), ordF ws f = P ++ r → w = ls (wk ws) P → scanX ws z f r w = none → ∀ P' a R, r = P' ++ a :: R → ¬ z * (en ws a - f) < ls (wk ws) ((P ++ P') ++ [a])
  | [], _, _, _, _, _ => fun P' a R e => by cases P' <;> cases e
  | b :: r, P, w, e, ew, h => fun P' a R er => by
    unfold scanX at h
    by_cases c : z * (en ws b - f) < w + wk ws b
    · rw [if_pos c] at h; cases h
    · rw [if_neg c] at h
      cases P' with
      | nil =>
        cases er
        rw [List.append_nil, ls_app]
        simp only [ls]
        rw [← ew]; omega
      | cons x P'' =>
        cases er
        have := scanX_none (P'' ++ a :: R) (P ++ [b]) (w + wk ws b) (by rw [e, List.append_assoc]; rfl) (by rw [ls_app, ew]; simp only [ls]; omega) h P'' a R rfl
        rw [List.append_assoc P [b]] at this
        exact this
/-- a load told is one, and names its first and last moment -/
theorem loadX_some {ws : List Wd} {z : Int} (ok : WsOk ws z) : ∀ {fs : List Int} {f l : Int}, loadX ws z fs = some (f, l) → f ≤ l ∧ z * (l - f) < ls (wk ws) (withL ws f l)
  | [], _, _, h => by cases h
  | g :: fs, f, l, h => by
    unfold loadX at h
    cases e : scanX ws z g (ordF ws g) 0 with
    | none => rw [e] at h; exact loadX_some ok h
    | some l' =>
      rw [e] at h
      cases h
      obtain ⟨P, a, R, ho, rfl, big⟩ := scanX_some (ordF ws g) [] 0 rfl rfl e
      obtain ⟨c1, c2, c3, c4, c5⟩ := ord_cut ho
      have ha := c4 a (List.mem_append_right _ (List.mem_singleton.mpr rfl))
      have o1 := ok.ord a ha.1; have o2 := ok.len a ha.1
      have e2 : en ws a = hi ws a + ln ws a := rfl
      refine ⟨by omega, Int.lt_of_lt_of_le big ?_⟩
      refine ls_more c3 (inL_nodup g (en ws a)) (fun x hx => (c4 x hx).1) (fun x hx => (inL_mem.mp hx).1) (fun k hk => by have := wk_nn ok hk; omega) fun x hx hm => inL_mem.mpr ⟨hx, (c4 x hm).2, ?_⟩
      rcases List.mem_append.mp hm with q | q
      · exact c1 x q
      · rw [List.mem_singleton.mp q]; exact Int.le_refl _
/-- where there is a load, one is told -/
theorem loadX_is {ws : List Wd} {z : Int} {fs : List Int} (il : IsLows ws fs) (h : loadB ws z = true) : ∃ x, loadX ws z fs = some x := by
  obtain ⟨k, P, a, R, hk, ho, big⟩ := load_iff.mp h
  have mk : lo ws k ∈ fs := (il.2 _).mpr (by unfold lows; exact List.mem_map.mpr ⟨gW ws k, by rw [gW_at hk]; exact List.getElem_mem hk, rfl⟩)
  clear il
  induction fs with
  | nil => cases mk
  | cons g fs ih =>
    unfold loadX
    cases e : scanX ws z g (ordF ws g) 0 with
    | some l => exact ⟨_, rfl⟩
    | none =>
      rcases List.mem_cons.mp mk with q | q
      · subst q
        exact absurd big (by have := scanX_none (ordF ws (lo ws k)) [] 0 rfl rfl e P a R ho; rw [List.nil_append] at this; exact this)
      · exact ih q
theorem natJ_eq (J : List Nat) : natJ J = (natI J).map V.int := by unfold natJ natI; rw [List.map_map]; rfl
section
variable {P : Program} {w : World} {K : PySem.W.Frag} {mg : Str → Option Value} {base : Heap} {aW aT : Addr} {es : Array DictEntry} {nn : Nat}
abbrev s_load_leaf : Stmt := topS 15
abbrev n_load_leaf : List Str := ["k", "windows", "size", "first", "work", "job", "last", "window"]
theorem sc_load_leaf : FnScope n_load_leaf ["k", "windows", "size"] (defScope s_load_leaf) := ⟨rfl, rfl, rfl, by decide +kernel, rfl, by decide +kernel, by decide +kernel⟩
def spLoadX (T0 : List (Addr × Str)) : Sp := fun vs H Q _ => ∃ (k z : Int) (pw : Addr) (us : List V) (ws : List Wd), vs = [.int k, .ref pw, .int z] ∧ H pw = some (.tup us) ∧ All2 (WdV H) us ws ∧ WsB ws z ∧ LamX.Tabs T0 H ∧ ∀ fs v H', IsLows ws fs → Xt T0 H H' → LdV ws k H' v (loadX ws z fs) → Q v H'
theorem ok_load_leafX {f : Addr} {T0 : List (Addr × Str)} {fd : FuncData} (F : Fun K "load_leaf" "load_leaf" s_load_leaf f fd) (T : Txt K mg w aW aT es nn) (c_jobs_from : Cal P w K mg base 8 "jobs_from" (spFrom T0) []) (c_work_of : Cal P w K mg base 1 "work_of" spWork []) (c_end_of : Cal P w K mg base 1 "end_of" spEnd []) (c_jobs_within : Cal P w K mg base 2 "jobs_within" spWithin []) : FnOk P w K mg base CX0 9 f fd ["k", "windows", "size"] (spLoadX T0) := by
  refine F.ok sc_load_leaf (fun vs H Q E h => ?_) (fun cdv A outer s0 H vs Q E hr h => ?_)
  · obtain ⟨k, z, pw, us, ws, rfl, _⟩ := h
    rfl
  · obtain ⟨k, z, pw, us, ws, rfl, hp, lv, wb, tt, q1⟩ := h
    have lus := lv.len
    have few := wb.few
    have z1 := wb.z1; have zb := wb.zb
    refine ⟨_, (pss_cons (ps_for PassesOwn.never rfl (pi_list (pe_callB (Own.cr_sortedSetN rfl) (by rfl) T.b_sorted (by decide +kernel) (pa_cons (pe_callTy (Own.cr_setL rfl) (by rfl) T.b_set (by decide +kernel) (pa_cons (pe_lc (own := [("window", 7)]) rfl sc_load_leaf.nd (pi_tup (pv 1)) (blkOk_by (N := n_load_leaf) (sc := defScope s_load_leaf) (by decide +kernel)) (fun _ _ _ _ _ => (pg_name (i := 7) sc_load_leaf.nd rfl (.inl rfl))) (fun _ _ _ _ _ => pts_nil) (fun _ _ _ _ _ => (pe_ix (r := rIxT K) ix_tup (pv 7) pe_int (fun _ _ => rfl)))) pa_nil)) pa_nil))) (pg_name (i := 3) sc_load_leaf.nd rfl (.inl rfl)) (pss_cons (ps_set (i := 4) sc_load_leaf.nd rfl (.inl rfl) pe_int)
        (pss_one (ps_for PassesOwn.never rfl (pi_list (pe_c c_jobs_from hr (by decide) (by rfl) (pa_cons (pv 1) (pa_cons (pv 3) pa_nil)))) (pg_name (i := 5) sc_load_leaf.nd rfl (.inl rfl)) (pss_cons (ps_aug (i := 4) sc_load_leaf.nd rfl (.inl rfl) (pe_c c_work_of hr (by decide) (by rfl) (pa_cons (pe_ix ix_tup (pv 1) (pv 5) (fun _ _ => rfl)) pa_nil)) ip_add)
          (pss_cons (ps_set (i := 6) sc_load_leaf.nd rfl (.inl rfl) (pe_c c_end_of hr (by decide) (by rfl) (pa_cons (pe_ix ix_tup (pv 1) (pv 5) (fun _ _ => rfl)) pa_nil)))
          (pss_one (ps_if (pt_cmpR op_gt (pv 4) (pe_op op_mul (pv 2) (pe_op op_sub (pv 6) (pv 3))) (nomark _)) (pss_one (ps_ret (pe_tup (pa_cons pe_str (pa_cons (pv 0) (pa_cons (pe_c c_jobs_within hr (by decide) (by rfl) (pa_cons (pv 1) (pa_cons (pv 3) (pa_cons (pv 6) pa_nil)))) (pa_cons (pv 3) (pa_cons (pv 6) pa_nil)))))))) pss_nil))))))))
      (pss_one (ps_ret pe_non))), ?_⟩
    refine ⟨_, rfl, pw, rfl, ⟨_, sq_tup hp⟩, fun D nD => ?_⟩
    refine lc_tup (K := K) (a := pw) (xs := us) (fun i H' => H' D = some (tL (lows (ws.take i))) ∧ Same H H') ⟨upd_same, same_upd nD⟩ (fun i H' _ h => sq_tup (h.2 _ _ hp)) ?_ ?_
    · rintro i x H2 hx ⟨hD, sm⟩
      obtain ⟨d, hd, pd, rfl, hpd⟩ := lv.at_ hx
      have li := (List.getElem?_eq_some_iff.mp hd).1
      refine ⟨rfl, _, rfl, pd, _, 0, _, rfl, rfl, sq_tup (sm _ _ hpd), rfl, _, hD, by rw [List.length_map]; unfold lows; rw [List.length_map, List.length_take]; exact small1000 (by omega), ?_, same_at sm nD⟩
      rw [upd_same, take_one hd]
      unfold lows
      rw [List.map_append]
      exact congrArg some (tL_app _ _).symm
    rintro H2 ⟨hD, sm⟩
    rw [lus, List.take_length] at hD
    refine ⟨D, lows ws, rfl, sq_lst hD, by unfold lows; rw [List.length_map]; omega, fun ps c hc nps => ?_⟩
    refine ⟨ps, _, c, rfl, upd_same, by unfold lows at hc; rw [List.length_map] at hc; omega, fun fs pf inc mem npf => ?_⟩
    have mem : ∀ k : Int, k ∈ fs ↔ k ∈ lows ws := fun k => (mem k).trans ixSet
    have x0 : Xt T0 H (upd (upd H2 ps (SetO w ps (fun j => decide (j ∈ lows ws)) c)) pf (.lst (fs.map V.int))) := (((Xt.refl tt).same sm).new nps).new npf
    have hpf : upd (upd H2 ps (SetO w ps (fun j => decide (j ∈ lows ws)) c)) pf (.lst (fs.map V.int)) pf = some (.lst (fs.map V.int)) := upd_same
    refine ⟨pf, rfl, ⟨_, sq_lst hpf⟩, for_list (K := K) (a := pf) (xs := fs.map V.int) (fun i σ H' => ∃ y3 y4 y5 y6 y7, σ = [some (.int k), some (.ref pw), some (.int z), y3, y4, y5, y6, y7] ∧ Xt T0 H H' ∧ H' pf = some (.lst (fs.map V.int)) ∧ loadX ws z fs = loadX ws z (fs.drop i))
      ⟨none, none, none, none, none, rfl, x0, hpf, rfl⟩ (fun i σ H' _ h => by obtain ⟨_, _, _, _, _, _, _, h, _⟩ := h; exact sq_lst h) (fun i v σ H4 hv hI => ?_) (fun σ H4 hI => ?_)⟩
    · obtain ⟨y3, y4, y5, y6, y7, rfl, x4, hpf4, no⟩ := hI
      obtain ⟨f, hf, rfl⟩ := at_map hv
      rw [loadX_drop hf] at no
      refine ⟨_, rfl, _, rfl, pw, us, ws, f, rfl, x4.tk _ _ hp, wdTk x4.tk lv, by omega, x4.t, fun po H5 x5 npo hpo => ?_⟩
      have x05 := x4.trans x5
      have hpf5 := x5.lst hpf4
      refine ⟨po, rfl, ⟨_, sq_lst hpo⟩, for_list (K := K) (a := po) (xs := (natI (ordF ws f)).map V.int) (fun j σ H' => ∃ wj y5 y6, σ = [some (.int k), some (.ref pw), some (.int z), some (.int f), some (.int wj), y5, y6, y7] ∧ H5 = H' ∧ scanX ws z f (ordF ws f) 0 = scanX ws z f ((ordF ws f).drop j) wj)
        ⟨0, y5, y6, rfl, rfl, rfl⟩ (fun j σ H' _ h => by obtain ⟨_, _, _, _, rfl, _⟩ := h; exact sq_lst hpo) (fun j v σ H' hv hI => ?_) (fun σ H' hI => ?_)⟩
      · obtain ⟨wj, y5, y6, rfl, rfl, sc⟩ := hI
        obtain ⟨a, ha, rfl⟩ := nat_at hv
        have la := (ord_mem.mp (List.mem_of_getElem? ha)).1
        rw [drop_at ha] at sc
        obtain ⟨pa, ua, hpa⟩ := wd_at lv la
        have tk := x05.tk
        have l1 := wb.ok.len a la; have l2 := wb.lb a la
        refine ⟨_, rfl, _, rfl, _, rfl, pw, _, (a : Int), _, rfl, rfl, sq_tup (tk _ _ hp), atI_nat ua, .ref pa, (lo ws a, hi ws a, ln ws a, nd ws a), rfl, ⟨pa, rfl, tk _ _ hpa⟩, ⟨by show 0 ≤ ln ws a; omega, l2⟩, _, _, rfl, rfl, ?_⟩
        refine ⟨_, rfl, _, rfl, pw, _, (a : Int), _, rfl, rfl, sq_tup (tk _ _ hp), atI_nat ua, .ref pa, (lo ws a, hi ws a, ln ws a, nd ws a), rfl, ⟨pa, rfl, tk _ _ hpa⟩, ?_⟩
        have e1 : scanX ws z f (ordF ws f) 0 = if z * (en ws a - f) < wj + wk ws a then some (en ws a) else scanX ws z f ((ordF ws f).drop (j + 1)) (wj + wk ws a) := sc
        refine ⟨_, rfl, _, rfl, _, rfl, _, rfl, _, _, rfl, rfl, _, _, rfl, rfl, .inl ⟨by omega, by omega⟩, _, _, rfl, rfl, _, rfl, ite2 (fun c1 => ?_) (fun c1 => ?_)⟩
        · have c1 : z * (en ws a - f) < wj + wk ws a := of_decide_eq_true c1
          rw [if_pos c1] at e1
          rw [e1] at no
          refine ⟨_, rfl, _, rfl, _, rfl, _, rfl, pw, us, ws, f, _, rfl, tk _ _ hp, wdTk tk lv, by omega, fun pj H6 s6 hpj => ?_⟩
          refine ⟨_, rfl, _, rfl, len5, fun t nt => ?_⟩
          refine q1 fs _ _ ⟨inc, mem⟩ ((x05.same s6).new nt) ?_
          rw [no]
          exact ⟨t, pj, rfl, upd_same, same_upd nt _ _ hpj⟩
        · have c1 : ¬ z * (en ws a - f) < wj + wk ws a := fun q => c1 (decide_eq_true q)
          rw [if_neg c1] at e1
          exact ⟨_, _, _, rfl, rfl, e1⟩
      · obtain ⟨wj, y5, y6, rfl, rfl, sc⟩ := hI
        refine ⟨_, _, _, _, _, rfl, x05, hpf5, ?_⟩
        rw [sc, List.length_map, natI_len, List.drop_length] at no
        exact no
    · obtain ⟨y3, y4, y5, y6, y7, rfl, x4, hpf4, no⟩ := hI
      rw [List.length_map, List.drop_length] at no
      refine q1 fs _ _ ⟨inc, mem⟩ x4 ?_
      rw [no]; rfl
end
end M60

namespace M60
open PySem PySem.Spec PyProof.Rows L2 SX Own Gd
open C8 (Cal pe_c pe_gc pe_mk Mak pss_cut)
open M12
/-! ### starts by pairs -/
/-! the first of the greatest, told with what stands with it -/
def mx2G {α : Type} (a b : Option (Int × α)) : Option (Int × α) := if pk2 (a.map Prod.fst) (b.map Prod.fst) = true then b else a
def mxG {α : Type} (l : List (Int × α)) : Option (Int × α) := l.foldl (fun b x => mx2G b (some x)) none
theorem mxG_one {α : Type} (l : List (Int × α)) (x : Int × α) : mxG (l ++ [x]) = mx2G (mxG l) (some x) := by unfold mxG; rw [List.foldl_append]; rfl
theorem mx2G_fst {α : Type} (a b : Option (Int × α)) : (mx2G a b).map Prod.fst = mx2 (a.map Prod.fst) (b.map Prod.fst) := by
  rw [mx2_pk]; unfold mx2G; split <;> rfl
theorem mx2G_mem {α : Type} {a b : Option (Int × α)} {x : Int × α} (h : mx2G a b = some x) : a = some x ∨ b = some x := by
  unfold mx2G at h
  split at h
  · exact .inr h
  · exact .inl h
theorem mxO_one (l : List Int) (x : Int) : mxO (l ++ [x]) = mx2 (mxO l) (some x) := by unfold mxO; rw [List.foldl_append]; rfl
theorem foldG {α : Type} : ∀ (l : List (Int × α)) (b : Option (Int × α)), (l.foldl (fun b x => mx2G b (some x)) b).map Prod.fst = (l.map Prod.fst).foldl (fun b x => mx2 b (some x)) (b.map Prod.fst) ∧ (∀ x, l.foldl (fun b x => mx2G b (some x)) b = some x → b = some x ∨ x ∈ l)
  | [], b => ⟨rfl, fun x h => .inl h⟩
  | y :: r, b => by
    obtain ⟨h1, h2⟩ := foldG r (mx2G b (some y))
    refine ⟨by show Option.map Prod.fst (r.foldl (fun b x => mx2G b (some x)) (mx2G b (some y))) = _; rw [h1, mx2G_fst]; rfl, fun x h => ?_⟩
    rcases h2 x h with h | h
    · rcases mx2G_mem h with h | h
      · exact .inl h
      · cases h; exact .inr (List.mem_cons_self ..)
    · exact .inr (List.mem_cons_of_mem _ h)
theorem mxG_fst {α : Type} (l : List (Int × α)) : (mxG l).map Prod.fst = mxO (l.map Prod.fst) := (foldG l none).1
theorem mxG_mem {α : Type} {l : List (Int × α)} {x : Int × α} (h : mxG l = some x) : x ∈ l := ((foldG l none).2 x h).resolve_left (fun h => by cases h)
/-- one job's start, told with its leaf -/
def StV (k : Int) (H : Hp) (v : V) : Option (Int × Lf) → Prop
  | none => v = .non
  | some x => ∃ p lf, v = .ref p ∧ H p = some (.tup [.int x.1, lf]) ∧ LfV k H lf x.2
theorem StV.tk {k : Int} {H H' : Hp} {v : V} {o : Option (Int × Lf)} (h : StV k H v o) (s : TK H H') : StV k H' v o := by
  cases o with
  | none => exact h
  | some x =>
    obtain ⟨p, lf, e, f, g⟩ := h
    exact ⟨p, lf, e, s _ _ f, g.tk s⟩
theorem stTk {k : Int} {H H' : Hp} (s : TK H H') {us : List V} {os : List (Option (Int × Lf))} (h : All2 (StV k H) us os) : All2 (StV k H') us os := h.mono fun _ _ g => g.tk s
theorem StV.opt {k : Int} {H : Hp} {v : V} {o : Option (Int × Lf)} (h : StV k H v o) : OptS H v (o.map Prod.fst) := by
  cases o with
  | none => exact h
  | some x =>
    obtain ⟨p, lf, e, f, _⟩ := h
    exact ⟨p, [lf], e, f⟩
theorem StV.pick {k : Int} {H : Hp} {v1 v2 : V} {a b : Option (Int × Lf)} (h1 : StV k H v1 a) (h2 : StV k H v2 b) : StV k H (if pk2 (a.map Prod.fst) (b.map Prod.fst) = true then v2 else v1) (mx2G a b) := by
  unfold mx2G
  split
  · exact h2
  · exact h1
def lateQ (ws : List Wd) (z : Int) (j o : Nat) : Bool := decide (o ≠ j ∧ z < nd ws j + nd ws o ∧ hi ws o < lo ws j + ln ws j)
def lateF (ws : List Wd) (j o : Nat) : Int × Lf := (lo ws o + ln ws o, .late (if o < j then o else j) (if o > j then o else j))
def lateN (ws : List Wd) (z : Int) (j i : Nat) : List (Int × Lf) := ((List.range i).filter (lateQ ws z j)).map (lateF ws j)
def lateG (ws : List Wd) (z : Int) (j : Nat) : Option (Int × Lf) := mxG (lateN ws z j ws.length)
theorem lateN_one {ws : List Wd} {z : Int} {j i : Nat} : lateN ws z j (i + 1) = lateN ws z j i ++ if lateQ ws z j i = true then [lateF ws j i] else [] := by
  unfold lateN
  rw [filter_range_succ, List.map_append]
  split <;> rfl
def tells {α : Type} (n : Nat) (g : Nat → Option α) : List (Option α) := (List.range n).map g
theorem tells_one {α : Type} (i : Nat) (g : Nat → Option α) : tells (i + 1) g = tells i g ++ [g i] := by unfold tells; rw [List.range_succ, List.map_append]; rfl
section
variable {P : Program} {w : World} {K : PySem.W.Frag} {mg : Str → Option Value} {base : Heap} {aW aT : Addr} {es : Array DictEntry} {nn : Nat}
abbrev s_late_starts : Stmt := topS 18
abbrev n_late_starts : List Str := ["k", "windows", "size", "starts", "job", "window", "best", "other", "rival", "leaf"]
theorem sc_late_starts : FnScope n_late_starts ["k", "windows", "size"] (defScope s_late_starts) := ⟨rfl, rfl, rfl, by decide +kernel, rfl, by decide +kernel, by decide +kernel⟩
def spLateS : Sp := fun vs H Q _ => ∃ (k z : Int) (pw : Addr) (us : List V) (ws : List Wd), vs = [.int k, .ref pw, .int z] ∧ H pw = some (.tup us) ∧ All2 (WdV H) us ws ∧ ws.length ≤ 20 ∧ ∀ D ys H', Same H H' → H' D = some (.lst ys) → All2 (StV k H') ys (tells ws.length fun j => lateG ws z j) → Q (.ref D) H'
theorem ok_late_starts {f : Addr} {fd : FuncData} (F : Fun K "late_starts" "late_starts" s_late_starts f fd) (T : Txt K mg w aW aT es nn) (c_later_start : Cal P w K mg base 1 "later_start" spLater []) : FnOk P w K mg base CX0 2 f fd ["k", "windows", "size"] spLateS := by
  refine F.ok sc_late_starts (fun vs H Q E h => ?_) (fun cdv A outer s0 H vs Q E hr h => ?_)
  · obtain ⟨k, z, pw, us, ws, rfl, _⟩ := h
    rfl
  · obtain ⟨k, z, pw, us, ws, rfl, hp, lv, few, q⟩ := h
    have lus := lv.len
    refine ⟨_, (pss_cons (ps_set (i := 3) sc_late_starts.nd rfl (.inl rfl) (pe_lst pa_nil))
      (pss_cons (ps_for PassesOwn.never rfl (pi_enT (by rfl) T.b_enumerate (pa_cons (pv 1) pa_nil)) (pg_tup rfl (pgs_cons (pg_name (i := 4) sc_late_starts.nd rfl (.inl rfl)) (pgs_cons (pg_name (i := 5) sc_late_starts.nd rfl (.inl rfl)) pgs_nil))) (pss_cons (ps_set (i := 6) sc_late_starts.nd rfl (.inl rfl) pe_non)
        (pss_cut (ps_for PassesOwn.never rfl (pi_enT (by rfl) T.b_enumerate (pa_cons (pv 1) pa_nil)) (pg_tup rfl (pgs_cons (pg_name (i := 7) sc_late_starts.nd rfl (.inl rfl)) (pgs_cons (pg_name (i := 8) sc_late_starts.nd rfl (.inl rfl)) pgs_nil))) (pss_cons (ps_if (PW.pt (pw_or (pt_cmpR op_eq (pv 7) (pv 4) (nomark _)) (pw_or (pt_cmpR op_le (pe_op op_add (pe_ix ix_tup (pv 5) pe_int (fun _ _ => rfl)) (pe_ix ix_tup (pv 8) pe_int (fun _ _ => rfl))) (pv 2) (nomark _)) (pw_or1 (pt_cmpR op_le (pe_op op_add (pe_ix ix_tup (pv 5) pe_int (fun _ _ => rfl)) (pe_ix ix_tup (pv 5) pe_int (fun _ _ => rfl))) (pe_ix ix_tup (pv 8) pe_int (fun _ _ => rfl)) (nomark _)))))) (pss_one ps_continue) pss_nil)
          (pss_cons (ps_set (i := 9) sc_late_starts.nd rfl (.inl rfl) (pe_tup (pa_cons pe_str (pa_cons (pv 0) (pa_cons (pe_callB (call_min2 rfl) (by rfl) T.b_min (by decide +kernel) (pa_cons (pv 4) (pa_cons (pv 7) pa_nil))) (pa_cons (pe_callB (call_max2 rfl) (by rfl) T.b_max (by decide +kernel) (pa_cons (pv 4) (pa_cons (pv 7) pa_nil))) pa_nil))))))
          (pss_one (ps_set (i := 6) sc_late_starts.nd rfl (.inl rfl) (pe_c c_later_start hr (by decide) (by rfl) (pa_cons (pv 6) (pa_cons (pe_tup (pa_cons (pe_op op_add (pe_ix ix_tup (pv 8) pe_int (fun _ _ => rfl)) (pe_ix ix_tup (pv 8) pe_int (fun _ _ => rfl))) (pa_cons (pv 9) pa_nil))) pa_nil))))))))
        (pss_one (ps_expr (pe_bm PySem.F.plainAttrs_list PySem.F.slot_list_append PySem.F.type_list_append mt_append (pv 3) (pa_cons (pv 6) pa_nil)))))))
      (pss_one (ps_ret (pv 3))))), ?_⟩
    refine ⟨Nat.zero_le _, fun D nD => ?_⟩
    have sD : Same H (upd H D (.lst [])) := same_upd nD
    refine ⟨_, rfl, pw, _, rfl, sq_tup (sD _ _ hp), for_enT (K := K) (a := pw) (xs := us) (fun i σ H' => ∃ (y4 y5 y6 y7 y8 y9 : Option V) (ys : List V), σ = [some (.int k), some (.ref pw), some (.int z), some (.ref D), y4, y5, y6, y7, y8, y9] ∧ Same H H' ∧ H' D = some (.lst ys) ∧ All2 (StV k H') ys (tells i fun j => lateG ws z j))
      ⟨none, none, none, none, none, none, [], rfl, sD, upd_same, .nil⟩ (fun i σ H' h => ?_) (fun i x T' σ H' hx h nT => ?_) (fun σ H' h => ?_)⟩
    · obtain ⟨_, _, _, _, _, _, _, _, sm, _⟩ := h
      exact sq_tup (sm _ _ hp)
    · obtain ⟨y4, y5, y6, y7, y8, y9, ys, rfl, sm, hD, sv⟩ := h
      obtain ⟨d, hd, pd, rfl, hpd⟩ := lv.at_ hx
      have li := (List.getElem?_eq_some_iff.mp hd).1
      have sT := same_at (o := .tup [.int (i : Nat), .ref pd]) sm (sm.free nT)
      have hDT : upd H' T' (.tup [.int (i : Nat), .ref pd]) D = some _ := same_upd nT _ _ hD
      have svT := stTk (TK.of (same_upd (o := .tup [.int (i : Nat), .ref pd]) nT)) sv
      refine ⟨T', _, rfl, sq_tup upd_same, rfl, _, _, rfl, _, _, rfl, rfl, ?_⟩
      generalize upd H' T' (.tup [.int (i : Nat), .ref pd]) = H1 at *
      have el : lo ws i = d.1 := by unfold lo; rw [wd_is hd]
      have en_ : ln ws i = d.2.2.1 := by unfold ln; rw [wd_is hd]
      have ed : nd ws i = d.2.2.2 := by unfold nd; rw [wd_is hd]
      refine ⟨fun σ H' => ∃ (y7 y8 y9 : Option V) (v : V), σ = [some (.int k), some (.ref pw), some (.int z), some (.ref D), some (.int (i : Nat)), some (.ref pd), some v, y7, y8, y9] ∧ Same H1 H' ∧ StV k H' v (lateG ws z i), ?_, fun σ H3 hM => ?_⟩
      · refine ⟨_, rfl, pw, _, rfl, sq_tup (sT _ _ hp), for_enT (K := K) (a := pw) (xs := us) (fun o σ H' => ∃ (y7 y8 y9 : Option V) (v : V), σ = [some (.int k), some (.ref pw), some (.int z), some (.ref D), some (.int (i : Nat)), some (.ref pd), some v, y7, y8, y9] ∧ Same H1 H' ∧ StV k H' v (mxG (lateN ws z i o)))
          ⟨y7, y8, y9, .non, rfl, Same.refl _, rfl⟩ (fun o σ H' h => ?_) (fun o x T2 σ H' hx2 h nT2 => ?_) (fun σ H' h => ?_)⟩
        · obtain ⟨_, _, _, _, _, s1, _⟩ := h
          exact sq_tup (s1 _ _ (sT _ _ hp))
        · obtain ⟨y7, y8, y9, v, rfl, s1, vv⟩ := h
          obtain ⟨r, hr', pr, rfl, hpr⟩ := lv.at_ hx2
          have lo' := (List.getElem?_eq_some_iff.mp hr').1
          have s2 := same_at (o := .tup [.int (o : Nat), .ref pr]) s1 (s1.free nT2)
          have vv2 := vv.tk (TK.of (same_upd (o := .tup [.int (o : Nat), .ref pr]) nT2))
          refine ⟨T2, _, rfl, sq_tup upd_same, rfl, _, _, rfl, _, _, rfl, rfl, ?_⟩
          generalize upd H' T2 (.tup [.int (o : Nat), .ref pr]) = H2 at *
          have rl : lo ws o = r.1 := by unfold lo; rw [wd_is hr']
          have rh : M60.hi ws o = r.2.1 := by unfold M60.hi; rw [wd_is hr']
          have rn : ln ws o = r.2.2.1 := by unfold ln; rw [wd_is hr']
          have rd : nd ws o = r.2.2.2 := by unfold nd; rw [wd_is hr']
          have hpd2 := s2 _ _ (sT _ _ hpd)
          have hpr2 := s2 _ _ (sT _ _ hpr)
          have off : ¬ lateQ ws z i o = true → mxG (lateN ws z i (o + 1)) = mxG (lateN ws z i o) := fun h => by rw [lateN_one, if_neg h, List.append_nil]
          have lq : lateQ ws z i o = decide (o ≠ i ∧ z < d.2.2.2 + r.2.2.2 ∧ r.2.1 < d.1 + d.2.2.1) := by unfold lateQ; rw [el, en_, ed, rd, rh]
          rw [lq] at off
          refine ⟨_, rfl, _, rfl, rfl, _, rfl, ite2 (fun c1 => ?_) (fun c1 => ?_)⟩
          · have c1 : V.int (o : Nat) = V.int (i : Nat) := of_decide_eq_true c1
            have c1 : o = i := by injection c1 with e; omega
            exact ⟨_, _, _, v, rfl, s2, by rw [off fun z => (of_decide_eq_true z).1 c1]; exact vv2⟩
          have c1 : o ≠ i := fun e => c1 (by rw [e]; exact decide_eq_true rfl)
          refine ⟨_, rfl, pd, _, 3, _, rfl, rfl, sq_tup hpd2, rfl, _, rfl, pr, _, 3, _, rfl, rfl, sq_tup hpr2, rfl, _, _, rfl, rfl, _, rfl, _, _, rfl, rfl, _, rfl, ite2 (fun c2 => ?_) (fun c2 => ?_)⟩
          · have c2 : d.2.2.2 + r.2.2.2 ≤ z := of_decide_eq_true c2
            exact ⟨_, _, _, v, rfl, s2, by rw [off fun z => by have := (of_decide_eq_true z).2.1; omega]; exact vv2⟩
          have c2 : ¬ d.2.2.2 + r.2.2.2 ≤ z := fun e => c2 (decide_eq_true e)
          refine ⟨_, rfl, pd, _, 0, _, rfl, rfl, sq_tup hpd2, rfl, _, rfl, pd, _, 2, _, rfl, rfl, sq_tup hpd2, rfl, _, _, rfl, rfl, _, rfl, pr, _, 1, _, rfl, rfl, sq_tup hpr2, rfl, _, _, rfl, rfl, _, rfl, ite2 (fun c3 => ?_) (fun c3 => ?_)⟩
          · have c3 : d.1 + d.2.2.1 ≤ r.2.1 := of_decide_eq_true c3
            exact ⟨_, _, _, v, rfl, s2, by rw [off fun z => by have := (of_decide_eq_true z).2.2; omega]; exact vv2⟩
          have c3 : ¬ d.1 + d.2.2.1 ≤ r.2.1 := fun e => c3 (decide_eq_true e)
          refine ⟨_, rfl, _, rfl, _, rfl, _, _, rfl, _, rfl, _, rfl, _, _, rfl, len4, fun t nt => ?_⟩
          have k1 := same_upd (o := .tup [.str "late", .int k, .int (if (o : Int) < (i : Nat) then (o : Int) else (i : Nat)), .int (if (o : Int) > (i : Nat) then (o : Int) else (i : Nat))]) nt
          have e1_ : (((if o < i then o else i : Nat)) : Int) = (if (o : Int) < (i : Nat) then (o : Int) else (i : Nat)) := by split <;> split <;> omega
          have e2_ : (((if o > i then o else i : Nat)) : Int) = (if (o : Int) > (i : Nat) then (o : Int) else (i : Nat)) := by split <;> split <;> omega
          have et : LfV k (upd H2 t (.tup [.str "late", .int k, .int (if (o : Int) < (i : Nat) then (o : Int) else (i : Nat)), .int (if (o : Int) > (i : Nat) then (o : Int) else (i : Nat))])) (.ref t) (.late (if o < i then o else i) (if o > i then o else i)) := ⟨t, rfl, by rw [e1_, e2_]; exact upd_same⟩
          have hpr3 := k1 _ _ hpr2
          have vv3 := vv2.tk (TK.of k1)
          refine ⟨_, rfl, _, rfl, pr, _, 0, _, rfl, rfl, sq_tup hpr3, rfl, _, rfl, pr, _, 2, _, rfl, rfl, sq_tup hpr3, rfl, _, _, rfl, rfl, _, rfl, len2, fun t2 nt2 => ?_⟩
          have k2 := same_upd (o := .tup [.int (r.1 + r.2.2.1), .ref t]) nt2
          have sv2 : StV k (upd (upd H2 t (.tup [.str "late", .int k, .int (if (o : Int) < (i : Nat) then (o : Int) else (i : Nat)), .int (if (o : Int) > (i : Nat) then (o : Int) else (i : Nat))])) t2 (.tup [.int (r.1 + r.2.2.1), .ref t])) (.ref t2) (some (r.1 + r.2.2.1, .late (if o < i then o else i) (if o > i then o else i))) := ⟨t2, .ref t, rfl, upd_same, et.tk (TK.of k2)⟩
          have vv4 := vv3.tk (TK.of k2)
          refine ⟨v, .ref t2, _, some (r.1 + r.2.2.1), rfl, vv4.opt, sv2.opt, ?_⟩
          refine ⟨_, _, _, _, rfl, s2.trans (k1.trans k2), ?_⟩
          rw [lateN_one, lq, if_pos (decide_eq_true ⟨c1, by omega, by omega⟩), mxG_one]
          unfold lateF
          rw [rl, rn]
          exact vv4.pick sv2
        · obtain ⟨y7, y8, y9, v, rfl, s1, vv⟩ := h
          rw [lus] at vv
          exact ⟨_, _, _, v, rfl, s1, vv⟩
      obtain ⟨y7, y8, y9, v, rfl, s3, vv⟩ := hM
      have hD3 := s3 _ _ hDT
      have lys : ys.length = i := by rw [sv.len]; unfold tells; rw [List.length_map, List.length_range]
      refine ⟨_, rfl, .inl ⟨rfl, _, sq_lst hD3⟩, _, rfl, D, _, _, rfl, rfl, hD3, small1000 (by omega), ?_⟩
      refine ⟨_, _, _, _, _, _, ys ++ [v], rfl, same_at (sT.trans s3) nD, upd_same, ?_⟩
      rw [tells_one]
      exact stTk (TK.put hD3) ((stTk (TK.of s3) svT).app vv)
    · obtain ⟨y4, y5, y6, y7, y8, y9, ys, rfl, sm, hD, sv⟩ := h
      rw [lus] at sv
      exact ⟨_, rfl, q D ys _ sm hD sv⟩
end
end M60

namespace M60
open PySem PySem.Spec PyProof.Rows L2 SX Own Gd
open C8 (Cal pe_c pe_gc pe_mk Mak pss_cut)
open M12
/-! ### starts by loads -/
/-- a span told: where it starts, its first and its last moment -/
def SpV (H : Hp) (v : V) : Option (Int × (Int × Int)) → Prop
  | none => v = .non
  | some x => ∃ p, v = .ref p ∧ H p = some (.tup [.int x.1, .int x.2.1, .int x.2.2])
theorem SpV.tk {H H' : Hp} {v : V} {o : Option (Int × (Int × Int))} (h : SpV H v o) (s : TK H H') : SpV H' v o := by
  cases o with
  | none => exact h
  | some x =>
    obtain ⟨p, e, g⟩ := h
    exact ⟨p, e, s _ _ g⟩
theorem spTk {H H' : Hp} (s : TK H H') {us : List V} {os : List (Option (Int × (Int × Int)))} (h : All2 (SpV H) us os) : All2 (SpV H') us os := h.mono fun _ _ g => g.tk s
theorem SpV.opt {H : Hp} {v : V} {o : Option (Int × (Int × Int))} (h : SpV H v o) : OptS H v (o.map Prod.fst) := by
  cases o with
  | none => exact h
  | some x =>
    obtain ⟨p, e, g⟩ := h
    exact ⟨p, _, e, g⟩
theorem SpV.pick {H : Hp} {v1 v2 : V} {a b : Option (Int × (Int × Int))} (h1 : SpV H v1 a) (h2 : SpV H v2 b) : SpV H (if pk2 (a.map Prod.fst) (b.map Prod.fst) = true then v2 else v1) (mx2G a b) := by
  unfold mx2G
  split
  · exact h2
  · exact h1
theorem All2.set {α : Type} {R : V → α → Prop} {v : V} {a : α} (h : R v a) : ∀ {vs : List V} {as : List α} (k : Nat), All2 R vs as → All2 R (vs.set k v) (as.set k a)
  | _, _, _, .nil => .nil
  | _, _, 0, .cons _ t => .cons h t
  | _, _, k + 1, .cons g t => .cons g (t.set h k)
theorem inc_ext : ∀ (a b : List Int), a.Pairwise (· < ·) → b.Pairwise (· < ·) → (∀ k, k ∈ a ↔ k ∈ b) → a = b
  | [], [], _, _, _ => rfl
  | [], y :: b, _, _, h => by have := (h y).mpr (List.mem_cons_self ..); cases this
  | x :: a, [], _, _, h => by have := (h x).mp (List.mem_cons_self ..); cases this
  | x :: a, y :: b, ha, hb, h => by
    obtain ⟨a1, a2⟩ := List.pairwise_cons.mp ha
    obtain ⟨b1, b2⟩ := List.pairwise_cons.mp hb
    have exy : x = y := by
      rcases List.mem_cons.mp ((h x).mp (List.mem_cons_self ..)) with z | z
      · exact z
      · rcases List.mem_cons.mp ((h y).mpr (List.mem_cons_self ..)) with u | u
        · exact u.symm
        · have h1 := a1 y u
          have h2 := b1 x z
          omega
    subst exy
    rw [inc_ext a b a2 b2 fun k => ?_]
    constructor
    · intro hk
      rcases List.mem_cons.mp ((h k).mp (List.mem_cons_of_mem _ hk)) with z | z
      · have := a1 k hk; omega
      · exact z
    · intro hk
      rcases List.mem_cons.mp ((h k).mpr (List.mem_cons_of_mem _ hk)) with z | z
      · have := b1 k hk; omega
      · exact z
theorem tells_len {α : Type} (n : Nat) (g : Nat → Option α) : (tells n g).length = n := by unfold tells; rw [List.length_map, List.length_range]
theorem tells_at {α : Type} {n k : Nat} {g : Nat → Option α} (h : k < n) : (tells n g)[k]? = some (g k) := by
  unfold tells
  rw [List.getElem?_map, List.getElem?_range h]; rfl
theorem tells_set {α : Type} (n o : Nat) (g : Nat → Option α) (x : Option α) : (tells n g).set o x = tells n fun j => if j = o then x else g j := by
  apply List.ext_getElem?
  intro i
  unfold tells
  rw [List.getElem?_set, List.getElem?_map, List.getElem?_map, List.length_map, List.length_range]
  by_cases h : i < n
  · rw [List.getElem?_range h]
    by_cases e : o = i
    · subst e
      rw [if_pos rfl, if_pos h]
      show some x = some (if o = o then x else g o)
      rw [if_pos rfl]
    · rw [if_neg e]
      show some (g i) = some (if i = o then x else g i)
      rw [if_neg fun q => e q.symm]
  · rw [List.getElem?_eq_none (by rw [List.length_range]; omega)]
    by_cases e : o = i
    · subst e
      rw [if_pos rfl, if_neg h]; rfl
    · rw [if_neg e]; rfl
theorem tells_cong {α : Type} {n : Nat} {g g' : Nat → Option α} (h : ∀ j, j < n → g j = g' j) : tells n g = tells n g' := by
  unfold tells
  exact List.map_congr_left fun j hj => h j (List.mem_range.mp hj)
def ldQ (ws : List Wd) (z f : Int) (P : List Nat) (a j : Nat) : Prop := z * (en ws a - f) < ls (wk ws) (P ++ [a]) + wk ws j
def ldV (ws : List Wd) (z f : Int) (P : List Nat) (a j : Nat) : Int := f - -(ls (wk ws) (P ++ [a]) + wk ws j) / z - ln ws j
instance (ws : List Wd) (z f : Int) (P : List Nat) (a j : Nat) : Decidable (ldQ ws z f P a j) := by unfold ldQ; exact inferInstance
/-- what one job of the order tells of a later one -/
def spI (ws : List Wd) (z f : Int) (P : List Nat) (a : Nat) (R : List Nat) (j : Nat) : List (Int × (Int × Int)) := if j ∈ R ∧ ldQ ws z f P a j then [(ldV ws z f P a j, (f, en ws a))] else []
def spM (ws : List Wd) (z f : Int) (j m : Nat) : List (Int × (Int × Int)) := match (ordF ws f)[m]? with
  | some a => spI ws z f ((ordF ws f).take m) a ((ordF ws f).drop (m + 1)) j
  | none => []
def spN (ws : List Wd) (z f : Int) (j n : Nat) : List (Int × (Int × Int)) := (List.range n).flatMap (spM ws z f j)
theorem spN_one (ws : List Wd) (z f : Int) (j n : Nat) : spN ws z f j (n + 1) = spN ws z f j n ++ spM ws z f j n := by
  unfold spN
  rw [List.range_succ, List.flatMap_append]
  simp
def spC (ws : List Wd) (z : Int) (j : Nat) (fs : List Int) : List (Int × (Int × Int)) := fs.flatMap fun f => spN ws z f j (ordF ws f).length
theorem spC_one (ws : List Wd) (z : Int) (j : Nat) (fs : List Int) (f : Int) : spC ws z j (fs ++ [f]) = spC ws z j fs ++ spN ws z f j (ordF ws f).length := by
  unfold spC
  rw [List.flatMap_append]
  simp
def spanG (ws : List Wd) (z : Int) (fs : List Int) (j : Nat) : Option (Int × (Int × Int)) := mxG (spC ws z j fs)
def spanL (ws : List Wd) (j : Nat) (x : Int × (Int × Int)) : Int × Lf := (x.1, .load (jwith ws x.2.1 x.2.2 j) x.2.1 (if x.1 - 1 + ln ws j > x.2.2 then x.1 - 1 + ln ws j else x.2.2))
def loadG (ws : List Wd) (z : Int) (fs : List Int) (j : Nat) : Option (Int × Lf) := (spanG ws z fs j).map (spanL ws j)
theorem spC_ok {ws : List Wd} {z : Int} {j : Nat} {fs : List Int} {x : Int × (Int × Int)} (h : x ∈ spC ws z j fs) : x.2.1 ∈ fs ∧ SpOk ws z j x.1 x.2.1 x.2.2 := by
  unfold spC at h
  obtain ⟨f, hf, h⟩ := List.mem_flatMap.mp h
  unfold spN at h
  obtain ⟨m, _, h⟩ := List.mem_flatMap.mp h
  unfold spM at h
  split at h
  · rename_i a ha
    unfold spI at h
    split at h
    · rename_i c
      rw [List.mem_singleton.mp h]
      have eo : ordF ws f = (ordF ws f).take m ++ a :: (ordF ws f).drop (m + 1) := by rw [← drop_at ha, List.take_append_drop]
      exact ⟨hf, _, a, _, eo, c.1, rfl, c.2, rfl⟩
    · cases h
  · cases h
theorem spC_mem {ws : List Wd} {z : Int} {j : Nat} {fs : List Int} {f s l : Int} (hf : f ∈ fs) (h : SpOk ws z j s f l) : (s, (f, l)) ∈ spC ws z j fs := by
  obtain ⟨P, a, R, e, hj, rfl, big, es⟩ := h
  unfold spC
  refine List.mem_flatMap.mpr ⟨f, hf, ?_⟩
  unfold spN
  have lP : P.length < (ordF ws f).length := by rw [e, List.length_append, List.length_cons]; omega
  refine List.mem_flatMap.mpr ⟨P.length, List.mem_range.mpr lP, ?_⟩
  have ha : (ordF ws f)[P.length]? = some a := by rw [e, List.getElem?_append_right (Nat.le_refl _), Nat.sub_self]; rfl
  have hP : (ordF ws f).take P.length = P := by rw [e, List.take_left]
  have hR : (ordF ws f).drop (P.length + 1) = R := by rw [e, List.drop_append]; simp
  unfold spM
  rw [ha, hP, hR]
  show _ ∈ spI ws z f P a R j
  unfold spI
  rw [if_pos ⟨hj, big⟩, es]
  exact List.mem_singleton.mpr rfl
theorem take_ap {l : List Nat} {i k : Nat} (h : l[i]? = some k) : l = l.take i ++ k :: l.drop (i + 1) := by
  rw [← drop_at h, List.take_append_drop]
theorem repf (n : Nat) (v : V) : (List.replicate n [v]).flatten = List.replicate n v := by
  induction n with
  | zero => rfl
  | succ n ih => rw [List.replicate_succ, List.flatten_cons, ih]; rfl
theorem cut_from {xs : List V} {i : Nat} (h : i ≤ xs.length) : cutV xs (some (i : Int)) none = xs.drop i := by
  unfold cutV
  rw [HT.sIx_nat, HT.sIx_none, Nat.min_eq_left h, List.take_of_length_le (by rw [List.length_drop]; omega)]
theorem all2_none {H : Hp} : ∀ n, All2 (SpV H) (List.replicate n .non) (tells n fun _ => mxG ([] : List (Int × (Int × Int))))
  | 0 => .nil
  | n + 1 => by
    rw [List.replicate_succ', tells_one]
    exact (all2_none n).app rfl
theorem ixN_nat {n j : Nat} (h : j < n) : ixN n (j : Int) = some j := by
  unfold ixN
  rw [if_pos (by omega), if_pos (by omega), Int.toNat_natCast]
section
variable {P : Program} {w : World} {K : PySem.W.Frag} {mg : Str → Option Value} {base : Heap} {aW aT : Addr} {es : Array DictEntry} {nn : Nat}
abbrev s_load_start : Stmt := topS 20
abbrev n_load_start : List Str := ["k", "windows", "job", "span", "start", "first", "last", "jobs"]
theorem sc_load_start : FnScope n_load_start ["k", "windows", "job", "span"] (defScope s_load_start) := ⟨rfl, rfl, rfl, by decide +kernel, rfl, by decide +kernel, by decide +kernel⟩
def spLS : Sp := fun vs H Q _ => ∃ (k : Int) (pw ps : Addr) (us : List V) (ws : List Wd) (j : Nat) (s f l : Int), vs = [.int k, .ref pw, .int (j : Nat), .ref ps] ∧ H pw = some (.tup us) ∧ All2 (WdV H) us ws ∧ ws.length ≤ 20 ∧ j < ws.length ∧ H ps = some (.tup [.int s, .int f, .int l]) ∧ (∃ a, a < ws.length ∧ f ≤ lo ws a ∧ en ws a ≤ l) ∧ ∀ v H', Same H H' → StV k H' v (some (spanL ws j (s, (f, l)))) → Q v H'
theorem ok_load_start {f : Addr} {fd : FuncData} (F : Fun K "_load_start" "_load_start" s_load_start f fd) (T : Txt K mg w aW aT es nn) (c_jobs_within : Cal P w K mg base 2 "jobs_within" spWithin []) : FnOk P w K mg base CX0 3 f fd ["k", "windows", "job", "span"] spLS := by
  refine F.ok sc_load_start (fun vs H Q E h => ?_) (fun cdv A outer s0 H vs Q E hr h => ?_)
  · obtain ⟨k, pw, ps, us, ws, j, s, f, l, rfl, _⟩ := h
    rfl
  · obtain ⟨k, pw, ps, us, ws, j, s, f, l, rfl, hp, lv, few, hj, hps, ⟨a, ha, fa, al⟩, q⟩ := h
    have lus := lv.len
    obtain ⟨pj, uj, hpj⟩ := wd_at lv hj
    refine ⟨_, (pss_cons (ps_asg (pv 3) (pg_tup rfl (pgs_cons (pg_name (i := 4) sc_load_start.nd rfl (.inl rfl)) (pgs_cons (pg_name (i := 5) sc_load_start.nd rfl (.inl rfl)) (pgs_cons (pg_name (i := 6) sc_load_start.nd rfl (.inl rfl)) pgs_nil)))))
      (pss_cons (ps_set (i := 7) sc_load_start.nd rfl (.inl rfl) (pe_callTy call_tuple_of (by rfl) T.b_tuple (by decide +kernel) (pa_cons (pe_callB (Own.cr_sortedSetN rfl) (by rfl) T.b_sorted (by decide +kernel) (pa_cons (pe_callTy (Own.cr_setTN rfl) (by rfl) T.b_set (by decide +kernel) (pa_cons (pe_op op_catT (pe_c c_jobs_within hr (by decide) (by rfl) (pa_cons (pv 1) (pa_cons (pv 5) (pa_cons (pv 6) pa_nil)))) (pe_tup (pa_cons (pv 2) pa_nil))) pa_nil)) pa_nil)) pa_nil)))
      (pss_one (ps_ret (pe_tup (pa_cons (pv 4) (pa_cons (pe_tup (pa_cons pe_str (pa_cons (pv 0) (pa_cons (pv 7) (pa_cons (pv 5) (pa_cons (pe_callB (call_max2 rfl) (by rfl) T.b_max (by decide +kernel) (pa_cons (pv 6) (pa_cons (pe_op op_add (pe_op op_sub (pv 4) pe_int) (pe_ix ix_tup (pe_ix ix_tup (pv 1) (pv 2) (fun _ _ => rfl)) pe_int (fun _ _ => rfl))) pa_nil))) pa_nil)))))) pa_nil))))))), ?_⟩
    refine ⟨_, rfl, ps, _, rfl, sq_tup hps, rfl, _, _, rfl, _, _, rfl, _, _, rfl, rfl, ?_⟩
    refine ⟨_, rfl, _, rfl, _, rfl, pw, us, ws, f, l, rfl, hp, lv, by omega, fun pi H1 s1 hpi => ?_⟩
    refine ⟨_, rfl, len1, fun t nt => ?_⟩
    have k1 := same_upd (o := .tup [.int (j : Nat)]) nt
    have lw := filt_len (withP ws f l) ws.length
    have wne : natI (withL ws f l) ≠ [] := by
      intro e
      have : a ∈ withL ws f l := List.mem_filter.mpr ⟨List.mem_range.mpr ha, decide_eq_true ⟨fa, al⟩⟩
      unfold natI at e
      rw [List.map_eq_nil_iff.mp e] at this
      cases this
    refine ⟨pi, t, (natI (withL ws f l)).map V.int, [.int (j : Nat)], rfl, rfl, sq_tup (k1 _ _ hpi), sq_tup upd_same, fun e => wne (List.map_eq_nil_iff.mp e), ?_, (fun e => by cases e), fun _ r nr => ?_⟩
    · rw [List.length_map, natI_len]
      have : (withL ws f l).length ≤ ws.length := lw
      show _ + 1 ≤ _
      rw [sizeLine_eq]; omega
    have k2 := same_upd (o := .tup ((natI (withL ws f l)).map V.int ++ [.int (j : Nat)])) nr
    have er : ∀ h : Hp, upd h r (.tup ((natI (withL ws f l)).map V.int ++ [.int (j : Nat)])) r = some (.tup ((natI (withL ws f l) ++ [(j : Int)]).map V.int)) := fun h => by rw [upd_same, List.map_append]; rfl
    refine ⟨r, natI (withL ws f l) ++ [(j : Int)], rfl, sq_tup (er _), ?_, fun p1 c hc np1 => ?_⟩
    · rw [List.length_append, natI_len]
      have : (withL ws f l).length ≤ ws.length := lw
      show _ + 1 ≤ 1000
      omega
    refine ⟨p1, _, c, rfl, upd_same, ?_, fun ns p2 inc mem np2 => ?_⟩
    · rw [List.length_append, natI_len] at hc
      have : (withL ws f l).length ≤ ws.length := lw
      have hc : c ≤ _ + 1 := hc
      omega
    refine ⟨p2, _, rfl, .inl ⟨sq_lst upd_same, fun tj ntj => ?_⟩⟩
    have k3 := same_upd (o := SetO w p1 (fun j' => decide (j' ∈ natI (withL ws f l) ++ [(j : Int)])) c) np1
    have k4 := same_upd (o := .lst (ns.map V.int)) np2
    have k5 := same_upd (o := .tup (ns.map V.int)) ntj
    have sA := s1.trans (k1.trans (k2.trans (k3.trans (k4.trans k5))))
    refine ⟨_, rfl, _, rfl, _, rfl, _, rfl, _, rfl, _, rfl, _, _, rfl, rfl, _, rfl, _, rfl, pw, _, (j : Int), _, rfl, rfl, sq_tup (sA _ _ hp), atI_nat uj, pj, _, 2, _, rfl, rfl, sq_tup (sA _ _ hpj), rfl, _, _, rfl, rfl, _, _, rfl, len5, fun t2 nt2 => ⟨len2, fun t3 nt3 => ?_⟩⟩
    have k6 := same_upd (o := .tup [.str "load", .int k, .ref tj, .int f, .int (if s - 1 + ln ws j > l then s - 1 + ln ws j else l)]) nt2
    have k7 := same_upd (o := .tup [.int s, .ref t2]) nt3
    have ens : ns.map V.int = natJ (jwith ws f l j) := by
      rw [natJ_eq]
      congr 1
      refine inc_ext _ _ inc ?_ fun x => ?_
      · unfold natI
        rw [List.pairwise_map]
        exact (List.pairwise_lt_range.filter _).imp fun {a b} h => by omega
      · rw [mem, decide_eq_true_iff, List.mem_append, List.mem_singleton]
        unfold natI
        rw [List.mem_map, List.mem_map]
        constructor
        · rintro (⟨y, hy, rfl⟩ | rfl)
          · obtain ⟨h1, h2⟩ := List.mem_filter.mp hy
            exact ⟨y, jwith_mem.mpr ⟨List.mem_range.mp h1, .inl (of_decide_eq_true h2)⟩, rfl⟩
          · exact ⟨j, jwith_mem.mpr ⟨hj, .inr rfl⟩, rfl⟩
        · rintro ⟨y, hy, rfl⟩
          obtain ⟨h1, h2⟩ := jwith_mem.mp hy
          rcases h2 with h2 | h2
          · exact .inl ⟨y, List.mem_filter.mpr ⟨List.mem_range.mpr h1, decide_eq_true h2⟩, rfl⟩
          · exact .inr (by rw [h2])
    refine q _ _ (sA.trans (k6.trans k7)) ⟨t3, .ref t2, rfl, upd_same, t2, tj, rfl, k7 _ _ upd_same, ?_⟩
    rw [← ens]
    exact (k6.trans k7) _ _ upd_same
end
end M60

namespace M60
open PySem PySem.Spec PyProof.Rows L2 SX Own Gd
open C8 (Cal pe_c pe_gc pe_mk Mak pss_cut)
open M12
theorem spI_off {ws : List Wd} {z f : Int} {P R : List Nat} {a j : Nat} (h : ¬ j ∈ R) : spI ws z f P a R j = [] := by unfold spI; rw [if_neg fun g => h g.1]
theorem spI_no {ws : List Wd} {z f : Int} {P R : List Nat} {a j : Nat} (h : ¬ ldQ ws z f P a j) : spI ws z f P a R j = [] := by unfold spI; rw [if_neg fun g => h g.2]
theorem spI_on {ws : List Wd} {z f : Int} {P R : List Nat} {a j : Nat} (h : j ∈ R) (g : ldQ ws z f P a j) : spI ws z f P a R j = [(ldV ws z f P a j, (f, en ws a))] := by unfold spI; rw [if_pos ⟨h, g⟩]
theorem spI_cong {ws : List Wd} {z f : Int} {P R R' : List Nat} {a j : Nat} (h : j ∈ R ↔ j ∈ R') : spI ws z f P a R j = spI ws z f P a R' j := by unfold spI; simp only [h]
section
variable {P : Program} {w : World} {K : PySem.W.Frag} {mg : Str → Option Value} {base : Heap} {aW aT : Addr} {es : Array DictEntry} {nn : Nat}
abbrev s_load_starts : Stmt := topS 19
abbrev n_load_starts : List Str := ["k", "windows", "size", "spans", "first", "inner", "work", "at", "job", "last", "other", "total", "start", "starts", "span", "window"]
theorem sc_load_starts : FnScope n_load_starts ["k", "windows", "size"] (defScope s_load_starts) := ⟨rfl, rfl, rfl, by decide +kernel, rfl, by decide +kernel, by decide +kernel⟩
def spLoadS (T0 : List (Addr × Str)) : Sp := fun vs H Q _ => ∃ (k z : Int) (pw : Addr) (us : List V) (ws : List Wd), vs = [.int k, .ref pw, .int z] ∧ H pw = some (.tup us) ∧ All2 (WdV H) us ws ∧ WsB ws z ∧ LamX.Tabs T0 H ∧ ∀ D ys fs H', IsLows ws fs → Xt T0 H H' → H' D = some (.lst ys) → All2 (StV k H') ys (tells ws.length (loadG ws z fs)) → Q (.ref D) H'
theorem ok_load_starts {f : Addr} {T0 : List (Addr × Str)} {fd : FuncData} (F : Fun K "load_starts" "load_starts" s_load_starts f fd) (T : Txt K mg w aW aT es nn) (c_jobs_from : Cal P w K mg base 8 "jobs_from" (spFrom T0) []) (c_work_of : Cal P w K mg base 1 "work_of" spWork []) (c_end_of : Cal P w K mg base 1 "end_of" spEnd []) (c_later_start : Cal P w K mg base 1 "later_start" spLater []) (c_load_start : Cal P w K mg base 3 "_load_start" spLS []) : FnOk P w K mg base CX0 9 f fd ["k", "windows", "size"] (spLoadS T0) := by
  refine F.ok sc_load_starts (fun vs H Q E h => ?_) (fun cdv A outer s0 H vs Q E hr h => ?_)
  · obtain ⟨k, z, pw, us, ws, rfl, _⟩ := h
    rfl
  · obtain ⟨k, z, pw, us, ws, rfl, hp, lv, wb, tt, q⟩ := h
    have lus := lv.len
    have few := wb.few
    have z1 := wb.z1; have zb := wb.zb
    refine ⟨_, (pss_cons (ps_set (i := 3) sc_load_starts.nd rfl (.inl rfl) (pe_op op_rep (pe_lst (pa_cons pe_non pa_nil)) (pe_callB call_len_seq (by rfl) T.b_len (by decide +kernel) (pa_cons (pv 1) pa_nil))))
      (pss_cut (ps_for PassesOwn.never rfl (pi_list (pe_callB (Own.cr_sortedSetN rfl) (by rfl) T.b_sorted (by decide +kernel) (pa_cons (pe_callTy (Own.cr_setL rfl) (by rfl) T.b_set (by decide +kernel) (pa_cons (pe_lc (own := [("window", 15)]) rfl sc_load_starts.nd (pi_tup (pv 1)) (blkOk_by (N := n_load_starts) (sc := defScope s_load_starts) (by decide +kernel)) (fun _ _ _ _ _ => (pg_name (i := 15) sc_load_starts.nd rfl (.inl rfl))) (fun _ _ _ _ _ => pts_nil) (fun _ _ _ _ _ => (pe_ix (r := rIxT K) ix_tup (pv 15) pe_int (fun _ _ => rfl)))) pa_nil)) pa_nil))) (pg_name (i := 4) sc_load_starts.nd rfl (.inl rfl)) (pss_cons (ps_set (i := 5) sc_load_starts.nd rfl (.inl rfl) (pe_c c_jobs_from hr (by decide) (by rfl) (pa_cons (pv 1) (pa_cons (pv 4) pa_nil))))
        (pss_cons (ps_set (i := 6) sc_load_starts.nd rfl (.inl rfl) pe_int)
        (pss_one (ps_for PassesOwn.never rfl (pi_enum (by rfl) T.b_enumerate (pa_cons (pv 5) pa_nil)) (pg_tup rfl (pgs_cons (pg_name (i := 7) sc_load_starts.nd rfl (.inl rfl)) (pgs_cons (pg_name (i := 8) sc_load_starts.nd rfl (.inl rfl)) pgs_nil))) (pss_cons (ps_aug (i := 6) sc_load_starts.nd rfl (.inl rfl) (pe_c c_work_of hr (by decide) (by rfl) (pa_cons (pe_ix ix_tup (pv 1) (pv 8) (fun _ _ => rfl)) pa_nil)) ip_add)
          (pss_cons (ps_set (i := 9) sc_load_starts.nd rfl (.inl rfl) (pe_c c_end_of hr (by decide) (by rfl) (pa_cons (pe_ix ix_tup (pv 1) (pv 8) (fun _ _ => rfl)) pa_nil)))
          (pss_one (ps_for PassesOwn.never rfl (pi_list (pe_slice sl_list (pv 5) (po_some (pe_op op_add (pv 7) pe_int)) po_none)) (pg_name (i := 10) sc_load_starts.nd rfl (.inl rfl)) (pss_cons (ps_set (i := 11) sc_load_starts.nd rfl (.inl rfl) (pe_op op_add (pv 6) (pe_c c_work_of hr (by decide) (by rfl) (pa_cons (pe_ix ix_tup (pv 1) (pv 10) (fun _ _ => rfl)) pa_nil))))
            (pss_one (ps_if (pt_cmpR op_gt (pv 11) (pe_op op_mul (pv 2) (pe_op op_sub (pv 9) (pv 4))) (nomark _)) (pss_cons (ps_set (i := 12) sc_load_starts.nd rfl (.inl rfl) (pe_op op_sub (pe_op op_sub (pv 4) (pe_op op_fdiv (pe_un un_neg (pv 11)) (pv 2))) (pe_ix ix_tup (pe_ix ix_tup (pv 1) (pv 10) (fun _ _ => rfl)) pe_int (fun _ _ => rfl))))
              (pss_one (ps_asg (pe_c c_later_start hr (by decide) (by rfl) (pa_cons (pe_ix ix_list (pv 3) (pv 10) (fun _ _ => rfl)) (pa_cons (pe_tup (pa_cons (pv 12) (pa_cons (pv 4) (pa_cons (pv 9) pa_nil)))) pa_nil))) (pg_sub (pv 3) (pv 10) set_list)))) pss_nil))))))))))))
      (pss_cons (ps_set (i := 13) sc_load_starts.nd rfl (.inl rfl) (pe_lst pa_nil))
      (pss_cons (ps_for PassesOwn.never rfl (pi_enum (by rfl) T.b_enumerate (pa_cons (pv 3) pa_nil)) (pg_tup rfl (pgs_cons (pg_name (i := 8) sc_load_starts.nd rfl (.inl rfl)) (pgs_cons (pg_name (i := 14) sc_load_starts.nd rfl (.inl rfl)) pgs_nil))) (pss_one (ps_expr (pe_bm PySem.F.plainAttrs_list PySem.F.slot_list_append PySem.F.type_list_append mt_append (pv 13) (pa_cons (pe_ifExp (pt_cmpR op_isN (pv 14) pe_non (nomark _)) pe_non (pe_c c_load_start hr (by decide) (by rfl) (pa_cons (pv 0) (pa_cons (pv 1) (pa_cons (pv 8) (pa_cons (pv 14) pa_nil)))))) pa_nil)))))
      (pss_one (ps_ret (pv 13))))))), ?_⟩
    refine ⟨len1, fun l1 nl1 => ?_⟩
    have a1 : Same H (upd H l1 (.lst [.non])) := same_upd nl1
    refine ⟨_, rfl, pw, us, rfl, .inr (sq_tup (a1 _ _ hp)), l1, (us.length : Int), [.non], rfl, rfl, upd_same, by omega, by omega, by show 1 * (us.length : Int).toNat ≤ _; rw [sizeLine_eq]; omega, fun D nD1 => ?_⟩
    have a2 := a1.trans (same_upd (o := .lst (List.replicate (us.length : Int).toNat [V.non]).flatten) nD1)
    have hD : upd (upd H l1 (.lst [.non])) D (.lst (List.replicate (us.length : Int).toNat [V.non]).flatten) D = some (.lst (List.replicate ws.length .non)) := by
      rw [upd_same, repf, Int.toNat_natCast, lus]
    generalize upd (upd H l1 (.lst [.non])) D (.lst (List.replicate (us.length : Int).toNat [V.non]).flatten) = H2 at *
    have nDH : H D = none := a1.free nD1
    have xN : Xt T0 H (upd H l1 (.lst [.non])) := (Xt.refl tt).same a1
    have x2 : Xt T0 H H2 := (Xt.refl tt).same a2
    refine ⟨fun σ H' => ∃ y4 y5 y6 y7 y8 y9 y10 y11 y12 y15 ys fs, σ = [some (.int k), some (.ref pw), some (.int z), some (.ref D), y4, y5, y6, y7, y8, y9, y10, y11, y12, none, none, y15] ∧ IsLows ws fs ∧ Xt T0 H H' ∧ H' D = some (.lst ys) ∧ All2 (SpV H') ys (tells ws.length (spanG ws z fs)), ?_, fun σ H3 hM => ?_⟩
    · refine ⟨_, rfl, pw, rfl, ⟨_, sq_tup (a2 _ _ hp)⟩, fun L nL => ?_⟩
      have nLH : H L = none := a2.free nL
      refine lc_tup (K := K) (a := pw) (xs := us) (fun i H' => H' L = some (tL (lows (ws.take i))) ∧ Same H2 H') ⟨upd_same, same_upd nL⟩ (fun i H' _ h => sq_tup (h.2 _ _ (a2 _ _ hp))) ?_ ?_
      · rintro i x H3 hx ⟨hL, sm⟩
        obtain ⟨d, hd, pd, rfl, hpd⟩ := lv.at_ hx
        have li := (List.getElem?_eq_some_iff.mp hd).1
        refine ⟨rfl, _, rfl, pd, _, 0, _, rfl, rfl, sq_tup (sm _ _ (a2 _ _ hpd)), rfl, _, hL, by rw [List.length_map]; unfold lows; rw [List.length_map, List.length_take]; exact small1000 (by omega), ?_, same_at sm nL⟩
        rw [upd_same, take_one hd]
        unfold lows
        rw [List.map_append]
        exact congrArg some (tL_app _ _).symm
      rintro H3 ⟨hL, sm⟩
      rw [lus, List.take_length] at hL
      refine ⟨L, lows ws, rfl, sq_lst hL, by unfold lows; rw [List.length_map]; omega, fun ps c hc nps => ?_⟩
      refine ⟨ps, _, c, rfl, upd_same, by unfold lows at hc; rw [List.length_map] at hc; omega, fun fs pf inc mem npf => ?_⟩
      have mem : ∀ k : Int, k ∈ fs ↔ k ∈ lows ws := fun k => (mem k).trans ixSet
      have sY : Same H2 (upd (upd H3 ps (SetO w ps (fun j => decide (j ∈ lows ws)) c)) pf (.lst (fs.map V.int))) := (sm.trans (same_upd nps)).trans (same_upd npf)
      have x0 := x2.same sY
      have hpf : upd (upd H3 ps (SetO w ps (fun j => decide (j ∈ lows ws)) c)) pf (.lst (fs.map V.int)) pf = some (.lst (fs.map V.int)) := upd_same
      have hD0 := sY _ _ hD
      have pfD : pf ≠ D := (ne_of_none (((sm.trans (same_upd nps))) _ _ hD) npf).symm
      refine ⟨pf, rfl, ⟨_, sq_lst hpf⟩, for_list (K := K) (a := pf) (xs := fs.map V.int) (fun i σ H' => ∃ y4 y5 y6 y7 y8 y9 y10 y11 y12 y15 ys, σ = [some (.int k), some (.ref pw), some (.int z), some (.ref D), y4, y5, y6, y7, y8, y9, y10, y11, y12, none, none, y15] ∧ Xt T0 H H' ∧ H' pf = some (.lst (fs.map V.int)) ∧ H' D = some (.lst ys) ∧ All2 (SpV H') ys (tells ws.length fun j => mxG (spC ws z j (fs.take i))))
        ⟨none, none, none, none, none, none, none, none, none, none, _, rfl, x0, hpf, hD0, all2_none _⟩ (fun i σ H' _ h => by obtain ⟨_, _, _, _, _, _, _, _, _, _, _, _, _, h, _⟩ := h; exact sq_lst h) (fun i v σ H4 hv hI => ?_) (fun σ H4 hI => ?_)⟩
      · obtain ⟨y4, y5, y6, y7, y8, y9, y10, y11, y12, y15, ys, rfl, x4, hpf4, hD4, sv4⟩ := hI
        obtain ⟨f, hf, rfl⟩ := at_map hv
        refine ⟨_, rfl, _, rfl, pw, us, ws, f, rfl, x4.tk _ _ hp, wdTk x4.tk lv, by omega, x4.t, fun po H5 x5 npo hpo => ?_⟩
        have x05 := x4.trans x5
        have hpf5 := x5.lst hpf4
        have hD5 := x5.lst hD4
        have poD : D ≠ po := npo _ _ hD4
        have popf : pf ≠ po := npo _ _ hpf4
        refine ⟨_, rfl, po, (natI (ordF ws f)).map V.int, rfl, sq_lst hpo, for_it walk_enum (fun i2 σ H' => ∃ y7 y8 y9 y10 y11 y12 wj ys, σ = [some (.int k), some (.ref pw), some (.int z), some (.ref D), some (.int f), some (.ref po), some (.int wj), y7, y8, y9, y10, y11, y12, none, none, y15] ∧ Xt T0 H H' ∧ H' pf = some (.lst (fs.map V.int)) ∧ H' po = some (tL (natI (ordF ws f))) ∧ H' D = some (.lst ys) ∧ All2 (SpV H') ys (tells ws.length fun j => mxG (spC ws z j (fs.take i) ++ spN ws z f j i2)) ∧ wj = ls (wk ws) ((ordF ws f).take i2))
          ⟨y7, y8, y9, y10, y11, y12, 0, ys, rfl, x05, hpf5, hpo, hD5, by
            rw [tells_cong (g' := fun j => mxG (spC ws z j (fs.take i))) fun j _ => by show mxG (_ ++ []) = _; rw [List.append_nil]]
            exact spTk x5.tk sv4, rfl⟩ (fun i2 σ H' _ h => by obtain ⟨_, _, _, _, _, _, _, _, _, _, _, h, _⟩ := h; exact sq_lst h) (fun i2 x1 σ H6 H7 hi2 hI hy => ?_) (fun σ H6 hI => ?_)⟩
        · obtain ⟨y7, y8, y9, y10, y11, y12, wj, ys, rfl, x6, hpf6, hpo6, hD6, sv6, ew⟩ := hI
          obtain ⟨T', k1, w1, rfl, nT, rfl, hk1, hw⟩ := hy
          cases hk1
          obtain ⟨a, ha, rfl⟩ := nat_at hw
          obtain ⟨la, fa⟩ := ord_mem.mp (List.mem_of_getElem? ha)
          obtain ⟨pa, ua, hpa⟩ := wd_at lv la
          have l1 := wb.ok.len a la; have l2 := wb.lb a la
          have sT := same_upd (o := .tup [.int (i2 : Nat), .int (a : Nat)]) nT
          have hpf8 := sT _ _ hpf6
          have hpo8 := sT _ _ hpo6
          have hD8 := sT _ _ hD6
          have x8 := x6.same sT
          have sv8 := spTk (TK.of sT) sv6
          refine ⟨T', _, rfl, sq_tup upd_same, rfl, _, _, rfl, _, _, rfl, rfl, ?_⟩
          generalize upd H6 T' (.tup [.int (i2 : Nat), .int (a : Nat)]) = H8 at *
          have tk8 := x8.tk
          refine ⟨_, rfl, _, rfl, _, rfl, pw, _, (a : Int), _, rfl, rfl, sq_tup (tk8 _ _ hp), atI_nat ua, .ref pa, (lo ws a, M60.hi ws a, ln ws a, nd ws a), rfl, ⟨pa, rfl, tk8 _ _ hpa⟩, ⟨by show 0 ≤ ln ws a; omega, l2⟩, _, _, rfl, rfl, ?_⟩
          refine ⟨_, rfl, _, rfl, pw, _, (a : Int), _, rfl, rfl, sq_tup (tk8 _ _ hp), atI_nat ua, .ref pa, (lo ws a, M60.hi ws a, ln ws a, nd ws a), rfl, ⟨pa, rfl, tk8 _ _ hpa⟩, ?_⟩
          refine ⟨_, rfl, _, rfl, _, _, rfl, rfl, _, rfl, ?_⟩
          unfold tNoPart
          refine ⟨po, _, rfl, sq_lst hpo8, fun pr npr => ?_⟩
          have li2 : i2 < (ordF ws f).length := (List.getElem?_eq_some_iff.mp ha).1
          have eo := take_ap ha
          have ecut : cutV ((natI (ordF ws f)).map V.int) (some ((i2 : Int) + 1)) none = (natI ((ordF ws f).drop (i2 + 1))).map V.int := by
            rw [show ((i2 : Int) + 1) = ((i2 + 1 : Nat) : Int) by omega, cut_from (by rw [List.length_map, natI_len]; omega)]
            unfold natI
            rw [List.map_drop, List.map_drop]
          rw [ecut]
          have ePl : ((ordF ws f).take i2).length = i2 := by rw [List.length_take]; omega
          generalize hP : (ordF ws f).take i2 = PP at *
          generalize hR : (ordF ws f).drop (i2 + 1) = RR at *
          have ew2 : wj + wk ws a = ls (wk ws) (PP ++ [a]) := by rw [ew, ls_app]; simp only [ls]; omega
          have s9 := same_upd (o := .lst ((natI RR).map V.int)) npr
          have hpr : upd H8 pr (.lst ((natI RR).map V.int)) pr = some (.lst ((natI RR).map V.int)) := upd_same
          have hpf9 := s9 _ _ hpf8
          have hpo9 := s9 _ _ hpo8
          have hD9 := s9 _ _ hD8
          have x9 := x8.same s9
          have sv9 := spTk (TK.of s9) sv8
          have prD : D ≠ pr := ne_of_none hD8 npr
          generalize upd H8 pr (.lst ((natI RR).map V.int)) = H9 at *
          refine ⟨pr, rfl, ⟨_, sq_lst hpr⟩, for_list (K := K) (a := pr) (xs := (natI RR).map V.int) (fun m σ H' => ∃ y10 y11 y12 ys, σ = [some (.int k), some (.ref pw), some (.int z), some (.ref D), some (.int f), some (.ref po), some (.int (wj + wk ws a)), some (.int (i2 : Nat)), some (.int (a : Nat)), some (.int (en ws a)), y10, y11, y12, none, none, y15] ∧ Xt T0 H H' ∧ H' pf = some (.lst (fs.map V.int)) ∧ H' po = some (tL (natI (ordF ws f))) ∧ H' pr = some (.lst ((natI RR).map V.int)) ∧ H' D = some (.lst ys) ∧ All2 (SpV H') ys (tells ws.length fun j => mxG ((spC ws z j (fs.take i) ++ spN ws z f j i2) ++ spI ws z f PP a (RR.take m) j)))
            ⟨y10, y11, y12, ys, rfl, x9, hpf9, hpo9, hpr, hD9, by
              rw [tells_cong (g' := fun j => mxG (spC ws z j (fs.take i) ++ spN ws z f j i2)) fun j _ => by rw [show RR.take 0 = [] from rfl, spI_off (fun h => by cases h), List.append_nil]]
              exact sv9⟩ (fun m σ H' _ h => by obtain ⟨_, _, _, _, _, _, _, _, h, _⟩ := h; exact sq_lst h) (fun m v σ Ha hv hI => ?_) (fun σ Ha hI => ?_)⟩
          · obtain ⟨y10, y11, y12, ys, rfl, xa, hpfa, hpoa, hpra, hDa, sva⟩ := hI
            obtain ⟨o, ho, rfl⟩ := nat_at hv
            have mo : o ∈ ordF ws f := by rw [eo]; exact List.mem_append_right _ (List.mem_cons_of_mem _ (List.mem_of_getElem? ho))
            have lo_ := (ord_mem.mp mo).1
            obtain ⟨po', uo, hpo'⟩ := wd_at lv lo_
            have m1 := wb.ok.len o lo_; have m2 := wb.lb o lo_
            have tka := xa.tk
            have et : RR.take (m + 1) = RR.take m ++ [o] := take_one ho
            have nodR : ∀ j, j ∈ RR.take m → j = o → False := fun j h e => by
              have nd1 : (ordF ws f).Nodup := ord_nodup ws f
              rw [eo] at nd1
              have nd2 := (List.nodup_cons.mp (List.nodup_append.mp nd1).2.1).2
              have nd3 : (RR.take m ++ [o]).Nodup := by rw [← et]; exact nd2.sublist (List.take_sublist ..)
              rw [e] at h
              exact (List.nodup_append.mp nd3).2.2 o h o (List.mem_singleton.mpr rfl) rfl
            refine ⟨_, rfl, _, rfl, _, rfl, pw, _, (o : Int), _, rfl, rfl, sq_tup (tka _ _ hp), atI_nat uo, .ref po', (lo ws o, M60.hi ws o, ln ws o, nd ws o), rfl, ⟨po', rfl, tka _ _ hpo'⟩, ⟨by show 0 ≤ ln ws o; omega, m2⟩, _, _, rfl, rfl, ?_⟩
            refine ⟨_, rfl, _, rfl, _, rfl, _, rfl, _, _, rfl, rfl, _, _, rfl, rfl, .inl ⟨by omega, by omega⟩, _, _, rfl, rfl, _, rfl, ite2 (fun c1 => ?_) (fun c1 => ?_)⟩
            · have c1 : z * (en ws a - f) < wj + wk ws a + wk ws o := of_decide_eq_true c1
              have lq : ldQ ws z f PP a o := by unfold ldQ; rw [← ew2]; exact c1
              have ev : f - -(wj + wk ws a + wk ws o) / z - ln ws o = ldV ws z f PP a o := by unfold ldV; rw [← ew2]
              obtain ⟨vo, hvo, spo⟩ := sva.at2 (tells_at (g := fun j => mxG ((spC ws z j (fs.take i) ++ spN ws z f j i2) ++ spI ws z f PP a (RR.take m) j)) lo_)
              refine ⟨_, rfl, _, rfl, _, rfl, _, rfl, _, _, rfl, rfl, ⟨by omega, by omega⟩, _, _, rfl, rfl, _, rfl, _, rfl, pw, _, (o : Int), _, rfl, rfl, sq_tup (tka _ _ hp), atI_nat uo, po', _, 2, _, rfl, rfl, sq_tup (tka _ _ hpo'), rfl, _, _, rfl, rfl, ?_⟩
              refine ⟨_, rfl, _, rfl, D, ys, (o : Int), vo, rfl, rfl, sq_lst hDa, atI_nat hvo, _, rfl, _, rfl, _, rfl, len3, fun t nt => ?_⟩
              have k1 := same_upd (o := .tup [.int (f - -(wj + wk ws a + wk ws o) / z - ln ws o), .int f, .int (en ws a)]) nt
              have et2 : upd Ha t (.tup [.int (f - -(wj + wk ws a + wk ws o) / z - ln ws o), .int f, .int (en ws a)]) t = some (.tup [.int (f - -(wj + wk ws a + wk ws o) / z - ln ws o), .int f, .int (en ws a)]) := upd_same
              have hDb := k1 _ _ hDa
              have hpfb := k1 _ _ hpfa
              have hpob := k1 _ _ hpoa
              have hprb := k1 _ _ hpra
              have svb := spTk (TK.of k1) sva
              have spb := spo.tk (TK.of k1)
              have xb := xa.same k1
              have spn : SpV (upd Ha t (.tup [.int (f - -(wj + wk ws a + wk ws o) / z - ln ws o), .int f, .int (en ws a)])) (.ref t) (some (f - -(wj + wk ws a + wk ws o) / z - ln ws o, (f, en ws a))) := ⟨t, rfl, et2⟩
              have lys : ys.length = ws.length := by rw [sva.len, tells_len]
              refine ⟨vo, .ref t, _, _, rfl, spb.opt, spn.opt, ?_⟩
              refine ⟨_, rfl, _, rfl, D, ys, (o : Int), o, rfl, rfl, hDb, ixN_nat (by omega), ?_⟩
              refine ⟨_, _, _, _, rfl, xN.put nD1 xb hDb, by rw [upd_ne pfD]; exact hpfb, by rw [upd_ne poD.symm]; exact hpob, by rw [upd_ne prD.symm]; exact hprb, upd_same, ?_⟩
              have e1 : (tells ws.length fun j => mxG ((spC ws z j (fs.take i) ++ spN ws z f j i2) ++ spI ws z f PP a (RR.take (m + 1)) j)) = (tells ws.length fun j => mxG ((spC ws z j (fs.take i) ++ spN ws z f j i2) ++ spI ws z f PP a (RR.take m) j)).set o (mx2G (mxG ((spC ws z o (fs.take i) ++ spN ws z f o i2) ++ spI ws z f PP a (RR.take m) o)) (some (f - -(wj + wk ws a + wk ws o) / z - ln ws o, (f, en ws a)))) := by
                rw [tells_set]
                refine tells_cong fun j _ => ?_
                by_cases e : j = o
                · subst e
                  have no : spI ws z f PP a (RR.take m) j = [] := spI_off fun h => nodR j h rfl
                  have yes : spI ws z f PP a (RR.take (m + 1)) j = [(f - -(wj + wk ws a + wk ws j) / z - ln ws j, (f, en ws a))] := by
                    rw [ev]
                    exact spI_on (by rw [et]; exact List.mem_append_right _ (List.mem_singleton.mpr rfl)) lq
                  rw [if_pos rfl, no, yes, List.append_nil, mxG_one]
                · rw [if_neg e]
                  have : spI ws z f PP a (RR.take (m + 1)) j = spI ws z f PP a (RR.take m) j := spI_cong (by rw [et, List.mem_append, List.mem_singleton]; exact ⟨fun h => h.elim id fun h => absurd h e, .inl⟩)
                  rw [this]
              rw [e1]
              exact spTk (TK.put hDb) (svb.set (spb.pick spn) o)
            · have c1 : ¬ z * (en ws a - f) < wj + wk ws a + wk ws o := fun e => c1 (decide_eq_true e)
              refine ⟨_, _, _, ys, rfl, xa, hpfa, hpoa, hpra, hDa, ?_⟩
              rw [tells_cong (g' := fun j => mxG ((spC ws z j (fs.take i) ++ spN ws z f j i2) ++ spI ws z f PP a (RR.take m) j)) fun j _ => ?_]
              · exact sva
              · by_cases e : j = o
                · subst e
                  have nq : ¬ ldQ ws z f PP a j := fun h => by unfold ldQ at h; rw [← ew2] at h; exact c1 h
                  rw [spI_no nq, spI_no nq]
                · have : spI ws z f PP a (RR.take (m + 1)) j = spI ws z f PP a (RR.take m) j := spI_cong (by rw [et, List.mem_append, List.mem_singleton]; exact ⟨fun h => h.elim id fun h => absurd h e, .inl⟩)
                  rw [this]
          · obtain ⟨y10, y11, y12, ys, rfl, xa, hpfa, hpoa, hpra, hDa, sva⟩ := hI
            refine ⟨_, _, _, _, _, _, _, ys, rfl, xa, hpfa, hpoa, hDa, ?_, ?_⟩
            · rw [tells_cong (g' := fun j => mxG ((spC ws z j (fs.take i) ++ spN ws z f j i2) ++ spI ws z f PP a (RR.take (((natI RR).map V.int).length)) j)) fun j _ => ?_]
              · exact sva
              · rw [List.length_map, natI_len, List.take_length, spN_one, ← List.append_assoc]
                unfold spM
                rw [ha, hP, hR]
            · rw [take_one ha, hP]; exact ew2
        · obtain ⟨y7, y8, y9, y10, y11, y12, wj, ys, rfl, x6, hpf6, hpo6, hD6, sv6, ew⟩ := hI
          refine ⟨_, _, _, _, _, _, _, _, _, _, ys, rfl, x6, hpf6, hD6, ?_⟩
          rw [tells_cong (g' := fun j => mxG (spC ws z j (fs.take i) ++ spN ws z f j ((natI (ordF ws f)).map V.int).length)) fun j _ => ?_]
          · exact sv6
          · rw [take_one hf, spC_one, List.length_map, natI_len]
      · obtain ⟨y4, y5, y6, y7, y8, y9, y10, y11, y12, y15, ys, rfl, x4, hpf4, hD4, sv4⟩ := hI
        refine ⟨_, _, _, _, _, _, _, _, _, _, ys, fs, rfl, ⟨inc, mem⟩, x4, hD4, ?_⟩
        rw [List.length_map, List.take_length] at sv4
        exact sv4
    obtain ⟨y4, y5, y6, y7, y8, y9, y10, y11, y12, y15, ys, fs, rfl, ilw, x3, hD3, sv3⟩ := hM
    refine ⟨Nat.zero_le _, fun E2 nE => ?_⟩
    have s4 := same_upd (o := .lst []) nE
    have x4 := x3.same s4
    have hD4 := s4 _ _ hD3
    have sv4 := spTk (TK.of s4) sv3
    have hE4 : upd H3 E2 (.lst []) E2 = some (.lst []) := upd_same
    have DE : D ≠ E2 := ne_of_none hD3 nE
    have lys : ys.length = ws.length := by rw [sv3.len, tells_len]
    refine ⟨_, rfl, D, ys, rfl, sq_lst hD4, for_it walk_enum (fun i σ H' => ∃ y8 y14 zs, σ = [some (.int k), some (.ref pw), some (.int z), some (.ref D), y4, y5, y6, y7, y8, y9, y10, y11, y12, some (.ref E2), y14, y15] ∧ Xt T0 H H' ∧ H' D = some (.lst ys) ∧ All2 (SpV H') ys (tells ws.length (spanG ws z fs)) ∧ H' E2 = some (.lst zs) ∧ All2 (StV k H') zs (tells i (loadG ws z fs)))
      ⟨y8, none, [], rfl, x4, hD4, sv4, hE4, .nil⟩ (fun i σ H' _ h => by obtain ⟨_, _, _, _, _, h, _⟩ := h; exact sq_lst h) (fun i x1 σ H5 H6 hi hI hy => ?_) (fun σ H5 hI => ?_)⟩
    · obtain ⟨y8, y14, zs, rfl, x5, hD5, sv5, hE5, tv5⟩ := hI
      obtain ⟨T', k1, w1, rfl, nT, rfl, hk1, hw⟩ := hy
      cases hk1
      have li : i < ws.length := by omega
      obtain ⟨v1, hv1, sp1⟩ := sv5.at2 (tells_at (g := spanG ws z fs) li)
      have hw : ys[i]? = some w1 := hw
      have ew : w1 = v1 := by rw [hv1] at hw; exact (Option.some.inj hw).symm
      subst ew
      have sT := same_upd (o := .tup [.int (i : Nat), w1]) nT
      have hD7 := sT _ _ hD5
      have hE7 := sT _ _ hE5
      have x7 := x5.same sT
      have sv7 := spTk (TK.of sT) sv5
      have tv7 := stTk (TK.of sT) tv5
      have sp7 := sp1.tk (TK.of sT)
      refine ⟨T', _, rfl, sq_tup upd_same, rfl, _, _, rfl, _, _, rfl, rfl, ?_⟩
      generalize upd H5 T' (.tup [.int (i : Nat), w1]) = H7 at *
      have lzs : zs.length = i := by rw [tv5.len, tells_len]
      refine ⟨_, rfl, .inl ⟨rfl, _, sq_lst hE7⟩, ?_⟩
      have fin : ∀ v H8, Same H7 H8 → StV k H8 v (loadG ws z fs i) → ∃ y8 y14 zs', [some (V.int k), some (.ref pw), some (.int z), some (.ref D), y4, y5, y6, y7, some (.int (i : Nat)), y9, y10, y11, y12, some (.ref E2), some w1, y15] = [some (.int k), some (.ref pw), some (.int z), some (.ref D), y4, y5, y6, y7, y8, y9, y10, y11, y12, some (.ref E2), y14, y15] ∧ Xt T0 H (upd H8 E2 (.lst (zs ++ [v]))) ∧ upd H8 E2 (.lst (zs ++ [v])) D = some (.lst ys) ∧ All2 (SpV (upd H8 E2 (.lst (zs ++ [v])))) ys (tells ws.length (spanG ws z fs)) ∧ upd H8 E2 (.lst (zs ++ [v])) E2 = some (.lst zs') ∧ All2 (StV k (upd H8 E2 (.lst (zs ++ [v])))) zs' (tells (i + 1) (loadG ws z fs)) := fun v H8 s8 sv => by
        have hE8 := s8 _ _ hE7
        refine ⟨_, _, zs ++ [v], rfl, x3.put nE (x7.same s8) hE8, by rw [upd_ne DE]; exact s8 _ _ hD7, spTk ((TK.of s8).trans (TK.put hE8)) sv7, upd_same, ?_⟩
        rw [tells_one]
        exact stTk (TK.put hE8) ((stTk (TK.of s8) tv7).app sv)
      clear hv1
      have eL : loadG ws z fs i = (spanG ws z fs i).map (spanL ws i) := rfl
      cases ho : spanG ws z fs i with
      | none =>
        rw [ho] at sp7 eL
        rw [eL] at fin
        have e : w1 = .non := sp7
        subst e
        exact ⟨_, rfl, rfl, _, rfl, iteT' (decide_eq_true rfl) ⟨E2, zs, _, rfl, rfl, hE7, small1000 (by omega), fin .non H7 (Same.refl _) rfl⟩⟩
      | some s1 =>
        have spok := (spC_ok (mxG_mem ho)).2
        rw [ho] at sp7 eL
        rw [eL] at fin
        obtain ⟨p, rfl, hpp⟩ := sp7
        refine ⟨_, rfl, rfl, _, rfl, iteF' (by simp) ⟨_, rfl, _, rfl, _, rfl, _, rfl, k, pw, p, us, ws, i, s1.1, s1.2.1, s1.2.2, rfl, x7.tk _ _ hp, wdTk x7.tk lv, by omega, li, hpp, spok.some, fun v H8 s8 sv => ?_⟩⟩
        exact ⟨E2, zs, v, rfl, rfl, s8 _ _ hE7, small1000 (by omega), fin v H8 s8 sv⟩
    · obtain ⟨y8, y14, zs, rfl, x5, hD5, sv5, hE5, tv5⟩ := hI
      rw [lys] at tv5
      exact ⟨_, rfl, q E2 zs fs _ ilw x5 hE5 tv5⟩
end
end M60

namespace M60
open PySem PySem.Spec PyProof.Rows L2 SX Own Gd
open C8 (Cal pe_c pe_gc pe_mk Mak pss_cut)
open M12
/-! ### leaves and starts of benches and rooms -/
def iSeq (K : PySem.W.Frag) (te : TE) : TI := fun σ H R => iList K te σ H R ∨ iTup K te σ H R
theorem pi_seqE {X : Cx} {tg l : Expr} {tl : TE} (hl : PE X l tl) : PI X tg l (iSeq X.K tl) :=
  ⟨fun pins s σ H R I h => h.elim (fun h => (pi_list hl).run pins s σ H R I h) fun h => (pi_tup hl).run pins s σ H R I h⟩
theorem isLows_ex (ws : List Wd) : ∃ fs, IsLows ws fs := by
  have : ∀ l : List Int, ∃ fs : List Int, fs.Pairwise (· < ·) ∧ ∀ k : Int, k ∈ fs ↔ k ∈ l := fun l => by
    induction l with
    | nil => exact ⟨[], .nil, fun k => Iff.rfl⟩
    | cons x r ih =>
      obtain ⟨fs, h1, h2⟩ := ih
      by_cases hx : x ∈ fs
      · exact ⟨fs, h1, fun k => by rw [h2, List.mem_cons]; exact ⟨.inr, fun h => h.elim (fun e => by rw [e]; exact (h2 x).mp hx) id⟩⟩
      · refine ⟨fs.filter (fun y => decide (y < x)) ++ x :: fs.filter (fun y => decide (x < y)), ?_, fun k => ?_⟩
        · refine List.pairwise_append.mpr ⟨h1.filter _, List.pairwise_cons.mpr ⟨fun y hy => of_decide_eq_true (List.mem_filter.mp hy).2, h1.filter _⟩, fun a ha b hb => ?_⟩
          have a1 := of_decide_eq_true (List.mem_filter.mp ha).2
          rcases List.mem_cons.mp hb with rfl | hb
          · exact a1
          · have := of_decide_eq_true (List.mem_filter.mp hb).2; omega
        · rw [List.mem_append, List.mem_cons, List.mem_filter, List.mem_filter, List.mem_cons, ← h2 k, decide_eq_true_iff, decide_eq_true_iff]
          constructor
          · rintro (h | h | h)
            · exact .inr h.1
            · exact .inl h
            · exact .inr h.1
          · rintro (h | h)
            · exact .inr (.inl h)
            · by_cases e : k = x
              · exact .inr (.inl e)
              · by_cases g : k < x
                · exact .inl ⟨h, g⟩
                · exact .inr (.inr ⟨h, by omega⟩)
  exact this (lows ws)
theorem leaf0 (ws : List Wd) (z : Int) : leafB false ws z = (lateB ws z || loadB ws z) := by
  unfold leafB
  cases lateB ws z <;> cases loadB ws z <;> rfl
theorem leaf1 (ws : List Wd) (z : Int) : leafB true ws z = (leafB false ws z || fullB ws z) := by
  unfold leafB
  cases lateB ws z <;> cases loadB ws z <;> cases fullB ws z <;> rfl
def startG (ws : List Wd) (z : Int) (fs : List Int) (j : Nat) : Option (Int × Lf) := mx2G (lateG ws z j) (loadG ws z fs j)
theorem ls_map (f : Nat → Int) : ∀ l : List Nat, (l.map f).sum = ls f l
  | [] => rfl
  | a :: r => by rw [List.map_cons, List.sum_cons, ls_map f r]; rfl
def fullP (ws : List Wd) (z : Int) (j : Nat) (m : Int) : Bool := decide (m ≤ lo ws j + ln ws j - 1 ∧ overP ws z j m)
def fullN (ws : List Wd) (z : Int) (j i : Nat) : List Int := (((momL ws j).take i).filter (fullP ws z j)).map (· + 1)
theorem fullN_one {ws : List Wd} {z : Int} {j i : Nat} {m : Int} (h : (momL ws j)[i]? = some m) : fullN ws z j (i + 1) = fullN ws z j i ++ if fullP ws z j m = true then [m + 1] else [] := by
  unfold fullN
  rw [take_one h, List.filter_append, List.map_append]
  by_cases e : fullP ws z j m = true
  · rw [if_pos e, List.filter_cons_of_pos e]; rfl
  · rw [if_neg e, List.filter_cons_of_neg e]; rfl
theorem fullN_all (ws : List Wd) (z : Int) (j : Nat) : fullN ws z j (momL ws j).length = fullC ws z j := by
  unfold fullN
  rw [List.take_length]; rfl
section
variable {P : Program} {w : World} {K : PySem.W.Frag} {mg : Str → Option Value} {base : Heap} {aW aT : Addr} {es : Array DictEntry} {nn : Nat}
/-- the first leaf -/
def LeafX (ws : List Wd) (z : Int) (fs : List Int) (L : Lf) : Prop := (∃ j l, LateFirst ws z j l ∧ L = .late j l) ∨ (lateB ws z = false ∧ ∃ f l, loadX ws z fs = some (f, l) ∧ L = .load (withL ws f l) f l)
abbrev s_bench_leaf : Stmt := topS 22
abbrev n_bench_leaf : List Str := ["k", "windows", "size", "leaf"]
theorem sc_bench_leaf : FnScope n_bench_leaf ["k", "windows", "size"] (defScope s_bench_leaf) := ⟨rfl, rfl, rfl, by decide +kernel, rfl, by decide +kernel, by decide +kernel⟩
def spLeaf (T0 : List (Addr × Str)) : Sp := fun vs H Q _ => ∃ (k z : Int) (pw : Addr) (us : List V) (ws : List Wd), vs = [.int k, .ref pw, .int z] ∧ H pw = some (.tup us) ∧ All2 (WdV H) us ws ∧ WsB ws z ∧ LamX.Tabs T0 H ∧ (leafB false ws z = true → ∀ v L fs H', IsLows ws fs → LeafX ws z fs L → Xt T0 H H' → LfV k H' v L → Q v H') ∧ (leafB false ws z = false → ∀ H', Xt T0 H H' → Q .non H')
theorem ok_bench_leaf {f : Addr} {T0 : List (Addr × Str)} {fd : FuncData} (F : Fun K "bench_leaf" "bench_leaf" s_bench_leaf f fd) (c_late_leaf : Cal P w K mg base 1 "late_leaf" spLate []) (c_load_leaf : Cal P w K mg base 9 "load_leaf" (spLoadX T0) []) : FnOk P w K mg base CX0 10 f fd ["k", "windows", "size"] (spLeaf T0) := by
  refine F.ok sc_bench_leaf (fun vs H Q E h => ?_) (fun cdv A outer s0 H vs Q E hr h => ?_)
  · obtain ⟨k, z, pw, us, ws, rfl, _⟩ := h
    rfl
  · obtain ⟨k, z, pw, us, ws, rfl, hp, lv, wb, tt, q1, q2⟩ := h
    have few := wb.few
    rw [leaf0] at q1 q2
    refine ⟨_, (pss_cons (ps_set (i := 3) sc_bench_leaf.nd rfl (.inl rfl) (pe_c c_late_leaf hr (by decide) (by rfl) (pa_cons (pv 0) (pa_cons (pv 1) (pa_cons (pv 2) pa_nil)))))
      (pss_one (ps_ret (pe_ifExp (pt_cmpR op_isN (pv 3) pe_non (nomark _)) (pe_c c_load_leaf hr (by decide) (by rfl) (pa_cons (pv 0) (pa_cons (pv 1) (pa_cons (pv 2) pa_nil)))) (pv 3))))), ?_⟩
    refine ⟨_, rfl, _, rfl, _, rfl, k, z, pw, us, ws, rfl, hp, lv, by omega, fun e v j l H1 s1 lfst lf => ?_, fun e H1 s1 => ?_⟩
    · rw [e] at q1
      obtain ⟨p, rfl⟩ := lf.ref
      refine ⟨_, rfl, rfl, _, rfl, iteF' (by simp) ⟨_, rfl, ?_⟩⟩
      obtain ⟨fs, ilw⟩ := isLows_ex ws
      exact q1 rfl _ _ fs _ ilw (.inl ⟨j, l, lfst, rfl⟩) ((Xt.refl tt).same s1) lf
    · rw [e] at q1 q2
      refine ⟨_, rfl, rfl, _, rfl, iteT' (decide_eq_true rfl) ⟨_, rfl, _, rfl, _, rfl, k, z, pw, us, ws, rfl, s1 _ _ hp, wdTk (TK.of s1) lv, wb, fun p hp => (tt p hp).ext s1, fun fs v H2 ilw x2 ld => ?_⟩⟩
      have x02 := ((Xt.refl tt).same s1).trans x2
      cases eb : loadB ws z with
      | true =>
        obtain ⟨⟨f, l⟩, efl⟩ := loadX_is ilw eb
        rw [efl] at ld
        obtain ⟨p, j, rfl, h1, h2⟩ := ld
        exact q1 (by rw [eb]; rfl) _ _ fs _ ilw (.inr ⟨e, f, l, efl, rfl⟩) x02 ⟨p, j, rfl, h1, by rw [natJ_eq]; exact h2⟩
      | false =>
        have : loadX ws z fs = none := by
          cases el : loadX ws z fs with
          | none => rfl
          | some x =>
            obtain ⟨h1, h2⟩ := loadX_some wb.ok el
            have z1 := wb.z1
            have : loadB ws z = true := (load_sym wb.ok (by omega)).mpr ⟨x.1, x.2, fun e => by
              have e2 : withL ws x.1 x.2 = [] := e
              rw [e2] at h2
              have : 0 ≤ z * (x.2 - x.1) := Int.mul_nonneg (by omega) (by omega)
              simp only [ls] at h2
              omega, h2⟩
            rw [eb] at this; cases this
        rw [this] at ld
        cases ld
        exact q2 (by rw [eb]; rfl) _ x02
abbrev s_bench_starts : Stmt := topS 23
abbrev n_bench_starts : List Str := ["k", "windows", "size", "late", "load", "job"]
theorem sc_bench_starts : FnScope n_bench_starts ["k", "windows", "size"] (defScope s_bench_starts) := ⟨rfl, rfl, rfl, by decide +kernel, rfl, by decide +kernel, by decide +kernel⟩
def spStarts (T0 : List (Addr × Str)) : Sp := fun vs H Q _ => ∃ (k z : Int) (pw : Addr) (us : List V) (ws : List Wd), vs = [.int k, .ref pw, .int z] ∧ H pw = some (.tup us) ∧ All2 (WdV H) us ws ∧ WsB ws z ∧ LamX.Tabs T0 H ∧ ∀ D ys fs H', IsLows ws fs → Xt T0 H H' → H' D = some (.lst ys) → All2 (StV k H') ys (tells ws.length (startG ws z fs)) → Q (.ref D) H'
theorem ok_bench_starts {f : Addr} {T0 : List (Addr × Str)} {fd : FuncData} (F : Fun K "bench_starts" "bench_starts" s_bench_starts f fd) (T : Txt K mg w aW aT es nn) (c_late_starts : Cal P w K mg base 2 "late_starts" spLateS []) (c_load_starts : Cal P w K mg base 9 "load_starts" (spLoadS T0) []) (c_later_start : Cal P w K mg base 1 "later_start" spLater []) : FnOk P w K mg base CX0 10 f fd ["k", "windows", "size"] (spStarts T0) := by
  refine F.ok sc_bench_starts (fun vs H Q E h => ?_) (fun cdv A outer s0 H vs Q E hr h => ?_)
  · obtain ⟨k, z, pw, us, ws, rfl, _⟩ := h
    rfl
  · obtain ⟨k, z, pw, us, ws, rfl, hp, lv, wb, tt, q⟩ := h
    have few := wb.few
    have lus := lv.len
    refine ⟨_, (pss_cons (ps_set (i := 3) sc_bench_starts.nd rfl (.inr rfl) (pe_c c_late_starts hr (by decide) (by rfl) (pa_cons (pv 0) (pa_cons (pv 1) (pa_cons (pv 2) pa_nil)))))
      (pss_cons (ps_set (i := 4) sc_bench_starts.nd rfl (.inr rfl) (pe_c c_load_starts hr (by decide) (by rfl) (pa_cons (pv 0) (pa_cons (pv 1) (pa_cons (pv 2) pa_nil)))))
      (pss_one (ps_ret (pe_lc (own := [("job", 5)]) rfl sc_bench_starts.nd (pi_range1 (by rfl) T.b_range (pa_cons (pe_callB call_len_seq (by rfl) T.b_len (by decide +kernel) (pa_cons (pv 1) pa_nil)) pa_nil)) (blkOk_by (N := n_bench_starts) (sc := defScope s_bench_starts) (by decide +kernel)) (fun _ _ _ _ _ => (pg_name (i := 5) sc_bench_starts.nd rfl (.inl rfl))) (fun _ _ _ _ _ => pts_nil) (fun _ _ _ _ _ => (pe_c c_later_start hr (by decide) (by rfl) (pa_cons (pe_ix (r := rIxL K) ix_list (pv 3) (pv 5) (fun _ _ => rfl)) (pa_cons (pe_ix (r := rIxL K) ix_list (pv 4) (pv 5) (fun _ _ => rfl)) pa_nil))))))))), ?_⟩
    refine ⟨_, rfl, _, rfl, _, rfl, k, z, pw, us, ws, rfl, hp, lv, few, fun D1 y1 H1 s1 h1 v1 => ?_⟩
    refine ⟨_, rfl, _, rfl, _, rfl, k, z, pw, us, ws, rfl, s1 _ _ hp, wdTk (TK.of s1) lv, wb, fun p hp => (tt p hp).ext s1, fun D2 y2 fs H2 ilw x2 h2 v2 => ?_⟩
    have x02 := ((Xt.refl tt).same s1).trans x2
    have h1' := x2.lst h1
    have v1' := stTk x2.tk v1
    refine ⟨_, rfl, pw, us, rfl, .inr (sq_tup (x02.tk _ _ hp)), us.length, rfl, by omega, by omega, fun D nD => ?_⟩
    refine lc_range (lo := 0) (n := (us.length : Int).toNat) (fun i H' => ∃ zs, H' D = some (.lst zs) ∧ All2 (StV k H') zs (tells i (startG ws z fs)) ∧ Same H2 H') ⟨[], upd_same, .nil, same_upd nD⟩ (fun i H3 hi hI => ?_) (fun H3 hI => ?_)
    · obtain ⟨zs, hD, sv, sm⟩ := hI
      rw [Int.toNat_natCast] at hi
      rw [show ((0 : Int) + (i : Nat)) = (i : Int) by omega]
      obtain ⟨a1, e1, g1⟩ := v1'.at2 (tells_at (n := ws.length) (k := i) (g := fun j => lateG ws z j) (by omega))
      obtain ⟨a2, e2, g2⟩ := v2.at2 (tells_at (n := ws.length) (k := i) (g := loadG ws z fs) (by omega))
      have g1 := g1.tk (TK.of sm); have g2 := g2.tk (TK.of sm)
      refine ⟨rfl, _, rfl, _, rfl, D1, y1, (i : Int), a1, rfl, rfl, sq_lst (sm _ _ h1'), atI_nat e1, _, rfl, _, rfl, D2, y2, (i : Int), a2, rfl, rfl, sq_lst (sm _ _ h2), atI_nat e2, a1, a2, _, _, rfl, g1.opt, g2.opt, ?_⟩
      have lz : zs.length = i := by rw [sv.len, tells_len]
      refine ⟨_, hD, small1000 (by omega), zs ++ [_], upd_same, ?_, same_at sm nD⟩
      rw [tells_one]
      exact stTk (TK.put hD) (sv.app (g1.pick g2))
    · obtain ⟨zs, hD, sv, sm⟩ := hI
      rw [Int.toNat_natCast, lus] at sv
      exact q D zs fs _ ilw (x02.same sm) hD sv
end
end M60

namespace M60
open PySem PySem.Spec PyProof.Rows L2 SX Own Gd
open C8 (Cal pe_c pe_gc pe_mk Mak pss_cut)
open M12
/-! ### draws -/
/-- one draw, told with its leaf -/
abbrev Dl := Dr × Lf
def DrV (k : Int) (H : Hp) (v : V) (d : Dl) : Prop := ∃ p lf, v = .ref p ∧ H p = some (.tup [.int d.1.1, .int d.1.2.1, .int d.1.2.2, lf]) ∧ LfV k H lf d.2
theorem DrV.tk {k : Int} {H H' : Hp} {v : V} {d : Dl} (h : DrV k H v d) (s : TK H H') : DrV k H' v d := by
  obtain ⟨p, lf, e, f, g⟩ := h
  exact ⟨p, lf, e, s _ _ f, g.tk s⟩
theorem drTk {k : Int} {H H' : Hp} (s : TK H H') {us : List V} {ds : List Dl} (h : All2 (DrV k H) us ds) : All2 (DrV k H') us ds := h.mono fun _ _ g => g.tk s
theorem All2.appl {α : Type} {R : V → α → Prop} : ∀ {vs ws : List V} {as bs : List α}, All2 R vs as → All2 R ws bs → All2 R (vs ++ ws) (as ++ bs)
  | _, _, _, _, .nil, h => h
  | _, _, _, _, .cons g t, h => .cons g (t.appl h)
def lowJG (w : Wd) (l : Option (Int × Lf)) : Int := lowJ w (l.map Prod.fst)
def dr0G (p : Nat) (w : Wd) : Option (Int × Lf) → List Dl
  | some x => if w.1 < x.1 then [((p, 0, x.1), x.2)] else []
  | none => []
def dr1G (p : Nat) (w : Wd) (l : Option (Int × Lf)) : Option (Int × Lf) → List Dl
  | some x => if lowJG w l ≤ -x.1 - w.2.2.1 ∧ -x.1 - w.2.2.1 < w.2.1 then [((p, 1, -x.1 - w.2.2.1), lfB x.2)] else []
  | none => []
def drawsG (js : List Jb) (ws : List Wd) (gl gb : Nat → Option (Int × Lf)) (n : Nat) : List Dl := (List.range n).flatMap fun k => dr0G (jA js k).1 (gW ws k) (gl k) ++ dr1G (jA js k).1 (gW ws k) (gl k) (gb k)
theorem drawsG_succ (js : List Jb) (ws : List Wd) (gl gb : Nat → Option (Int × Lf)) (n : Nat) : drawsG js ws gl gb (n + 1) = drawsG js ws gl gb n ++ (dr0G (jA js n).1 (gW ws n) (gl n) ++ dr1G (jA js n).1 (gW ws n) (gl n) (gb n)) := by
  unfold drawsG
  rw [List.range_succ, List.flatMap_append]
  simp
theorem dr0G_fst (p : Nat) (w : Wd) (l : Option (Int × Lf)) : (dr0G p w l).map Prod.fst = dr0 p w (l.map Prod.fst) := by
  cases l with
  | none => rfl
  | some x => show (if w.1 < x.1 then [((p, 0, x.1), x.2)] else []).map Prod.fst = if w.1 < x.1 then [(p, 0, x.1)] else []; split <;> rfl
theorem dr1G_fst (p : Nat) (w : Wd) (l b : Option (Int × Lf)) : (dr1G p w l b).map Prod.fst = dr1 p w (l.map Prod.fst) (b.map Prod.fst) := by
  cases b with
  | none => rfl
  | some x =>
    show (if lowJG w l ≤ -x.1 - w.2.2.1 ∧ -x.1 - w.2.2.1 < w.2.1 then [((p, 1, -x.1 - w.2.2.1), lfB x.2)] else []).map Prod.fst = if lowJ w (l.map Prod.fst) ≤ -x.1 - w.2.2.1 ∧ -x.1 - w.2.2.1 < w.2.1 then [(p, 1, -x.1 - w.2.2.1)] else []
    unfold lowJG
    split <;> rfl
theorem dr0_len (p : Nat) (w : Wd) (l : Option (Int × Lf)) : (dr0G p w l).length ≤ 1 := by
  unfold dr0G
  split
  · split <;> simp
  · simp
theorem dr1_len (p : Nat) (w : Wd) (l b : Option (Int × Lf)) : (dr1G p w l b).length ≤ 1 := by
  unfold dr1G
  split
  · split <;> simp
  · simp
theorem drawsG_len (js : List Jb) (ws : List Wd) (gl gb : Nat → Option (Int × Lf)) : ∀ n, (drawsG js ws gl gb n).length ≤ 2 * n
  | 0 => Nat.le_refl _
  | n + 1 => by
    rw [drawsG_succ, List.length_append, List.length_append]
    have := drawsG_len js ws gl gb n
    have := dr0_len (jA js n).1 (gW ws n) (gl n)
    have := dr1_len (jA js n).1 (gW ws n) (gl n) (gb n)
    omega
section
variable {P : Program} {w : World} {K : PySem.W.Frag} {mg : Str → Option Value} {base : Heap} {aW aT : Addr} {es : Array DictEntry} {nn : Nat}
abbrev s_draws_of_starts : Stmt := topS 24
abbrev n_draws_of_starts : List Str := ["wish", "windows", "least", "backward", "draws", "job", "place", "length", "_", "low", "high", "greatest"]
theorem sc_draws_of_starts : FnScope n_draws_of_starts ["wish", "windows", "least", "backward"] (defScope s_draws_of_starts) := ⟨rfl, rfl, rfl, by decide +kernel, rfl, by decide +kernel, by decide +kernel⟩
def spDrs : Sp := fun vs H Q _ => ∃ (v : V) (k : Int) (x : Wish) (n : Nat) (bx : Bx) (pw pl pb : Addr) (us yl yb : List V) (gl gb : Nat → Option (Int × Lf)), vs = [v, .ref pw, .ref pl, .ref pb] ∧ WV H v x ∧ x.isJ = true ∧ WishOk n x ∧ H pw = some (.tup us) ∧ All2 (WdV H) us (wsOf x.jobs bx) ∧ H pl = some (.lst yl) ∧ All2 (StV k H) yl (tells x.jobs.length gl) ∧ H pb = some (.lst yb) ∧ All2 (StV k H) yb (tells x.jobs.length gb) ∧
  ∀ p ds H', Same H H' → H' p = some (.tup ds) → All2 (DrV k H') ds (drawsG x.jobs (wsOf x.jobs bx) gl gb x.jobs.length) → Q (.ref p) H'
theorem ok_draws_of_starts {f : Addr} {fd : FuncData} (F : Fun K "draws_of_starts" "draws_of_starts" s_draws_of_starts f fd) (T : Txt K mg w aW aT es nn) (c_jobs_of : Cal P w K mg base 1 "jobs_of" spJobsOf []) (c_leaf_backwards : Cal P w K mg base 1 "leaf_backwards" spLb []) : FnOk P w K mg base CX0 2 f fd ["wish", "windows", "least", "backward"] spDrs := by
  refine F.ok sc_draws_of_starts (fun vs H Q E h => ?_) (fun cdv A outer s0 H vs Q E hr h => ?_)
  · obtain ⟨v, k, x, n, bx, pw, pl, pb, us, yl, yb, gl, gb, rfl, _⟩ := h
    rfl
  · obtain ⟨v, k, x, n, bx, pw, pl, pb, us, yl, yb, gl, gb, rfl, wv, hJ, ok, hp, lv, hl, vl, hb, vb, q⟩ := h
    have wj := ok.wj hJ
    have few := wj.few
    have lws := ws_len x.jobs bx
    refine ⟨_, (pss_cons (ps_set (i := 4) sc_draws_of_starts.nd rfl (.inl rfl) (pe_lst pa_nil))
      (pss_cons (ps_for PassesOwn.never rfl (pi_enT (by rfl) T.b_enumerate (pa_cons (pe_c c_jobs_of hr (by decide) (by rfl) (pa_cons (pv 0) pa_nil)) pa_nil)) (pg_tup rfl (pgs_cons (pg_name (i := 5) sc_draws_of_starts.nd rfl (.inl rfl)) (pgs_cons (pg_tup rfl (pgs_cons (pg_name (i := 6) sc_draws_of_starts.nd rfl (.inl rfl)) (pgs_cons (pg_name (i := 7) sc_draws_of_starts.nd rfl (.inl rfl)) (pgs_cons (pg_name (i := 8) sc_draws_of_starts.nd rfl (.inl rfl)) pgs_nil)))) pgs_nil))) (pss_cons (ps_par (i := 9) (j := 10) (by rfl) sc_draws_of_starts.nd rfl rfl (by decide) rfl rfl (pa_cons (pe_ix ix_tup (pe_ix ix_tup (pv 1) (pv 5) (fun _ _ => rfl)) pe_int (fun _ _ => rfl)) (pa_cons (pe_ix ix_tup (pe_ix ix_tup (pv 1) (pv 5) (fun _ _ => rfl)) pe_int (fun _ _ => rfl)) pa_nil)) (by rfl))
        (pss_cut (ps_if (PW.pt (pw_and (pt_cmpR op_notN (pe_ix ix_list (pv 2) (pv 5) (fun _ _ => rfl)) pe_non (nomark _)) (pw_and1 (pt_cmpR op_gt (pe_ix ix_tup (pe_ix ix_list (pv 2) (pv 5) (fun _ _ => rfl)) pe_int (fun _ _ => rfl)) (pv 9) (nomark _))))) (pss_cons (ps_set (i := 9) sc_draws_of_starts.nd rfl (.inl rfl) (pe_ix ix_tup (pe_ix ix_list (pv 2) (pv 5) (fun _ _ => rfl)) pe_int (fun _ _ => rfl)))
          (pss_one (ps_expr (pe_bm PySem.F.plainAttrs_list PySem.F.slot_list_append PySem.F.type_list_append mt_append (pv 4) (pa_cons (pe_tup (pa_cons (pv 6) (pa_cons pe_int (pa_cons (pv 9) (pa_cons (pe_ix ix_tup (pe_ix ix_list (pv 2) (pv 5) (fun _ _ => rfl)) pe_int (fun _ _ => rfl)) pa_nil))))) pa_nil))))) pss_nil)
        (pss_cons (ps_if (pt_cmpR op_isN (pe_ix ix_list (pv 3) (pv 5) (fun _ _ => rfl)) pe_non (nomark _)) (pss_one ps_continue) pss_nil)
        (pss_cons (ps_set (i := 11) sc_draws_of_starts.nd rfl (.inl rfl) (pe_op op_sub (pe_un un_neg (pe_ix ix_tup (pe_ix ix_list (pv 3) (pv 5) (fun _ _ => rfl)) pe_int (fun _ _ => rfl))) (pv 7)))
        (pss_one (ps_if (pt_chain op_le op_lt (pv 9) (pv 11) (pv 10)) (pss_one (ps_expr (pe_bm PySem.F.plainAttrs_list PySem.F.slot_list_append PySem.F.type_list_append mt_append (pv 4) (pa_cons (pe_tup (pa_cons (pv 6) (pa_cons pe_int (pa_cons (pv 11) (pa_cons (pe_c c_leaf_backwards hr (by decide) (by rfl) (pa_cons (pe_ix ix_tup (pe_ix ix_list (pv 3) (pv 5) (fun _ _ => rfl)) pe_int (fun _ _ => rfl)) pa_nil)) pa_nil))))) pa_nil)))) pss_nil)))))))
      (pss_one (ps_ret (pe_callTy call_tuple_of (by rfl) T.b_tuple (by decide +kernel) (pa_cons (pv 4) pa_nil)))))), ?_⟩
    refine ⟨Nat.zero_le _, fun D nD => ?_⟩
    have sD := same_upd (o := .lst []) nD
    have hD0 : upd H D (.lst []) D = some (.lst []) := upd_same
    refine ⟨_, rfl, v, x, n, rfl, wv.same sD, hJ, ok, fun pj jv H1 s1 hpj lj => ?_⟩
    have hD1 := s1 _ _ hD0
    have s01 := sD.trans s1
    refine ⟨pj, _, rfl, sq_tup hpj, for_enT (K := K) (a := pj) (xs := jv) (fun i σ H' => ∃ (y5 y6 y7 y8 y9 y10 y11 : Option V) (ds : List V), σ = [some v, some (.ref pw), some (.ref pl), some (.ref pb), some (.ref D), y5, y6, y7, y8, y9, y10, y11] ∧ Same H H' ∧ TK H1 H' ∧ H' D = some (.lst ds) ∧ All2 (DrV k H') ds (drawsG x.jobs (wsOf x.jobs bx) gl gb i))
      ⟨none, none, none, none, none, none, none, [], rfl, s01, TK.refl _, hD1, .nil⟩ (fun i σ H' h => ?_) (fun i x1 T' σ H' hx h nT => ?_) (fun σ H' h => ?_)⟩
    · obtain ⟨_, _, _, _, _, _, _, _, _, _, tk, _⟩ := h
      exact sq_tup (tk _ _ hpj)
    · obtain ⟨y5, y6, y7, y8, y9, y10, y11, ds, rfl, sm, tk, hD, dv⟩ := h
      obtain ⟨j, hj, t, rfl, ht⟩ := lj.at_ hx
      have li := (List.getElem?_eq_some_iff.mp hj).1
      have kT := same_upd (o := .tup [.int (i : Nat), .ref t]) nT
      have sT := sm.trans kT
      have tkT := tk.trans (TK.of kT)
      have hDT := kT _ _ hD
      have dvT := drTk (TK.of kT) dv
      refine ⟨T', _, rfl, sq_tup upd_same, rfl, _, _, rfl, _, _, rfl, t, _, rfl, sq_tup (tkT _ _ ht), rfl, _, _, rfl, _, _, rfl, _, _, rfl, rfl, rfl, ?_⟩
      generalize upd H' T' (.tup [.int (i : Nat), .ref t]) = H2 at *
      obtain ⟨pd, ud, hpd⟩ := wd_at lv (k := i) (by rw [lws]; exact li)
      have ej : jA x.jobs i = j := by unfold jA; rw [List.getD_eq_getElem?_getD, hj]; rfl
      have eW : gW (wsOf x.jobs bx) i = winJ bx j := by rw [ws_at li, ej]
      have eln : (gW (wsOf x.jobs bx) i).2.2.1 = j.2.1 := by rw [eW]; rfl
      have eg := drawsG_succ x.jobs (wsOf x.jobs bx) gl gb i
      rw [ej] at eg
      have hpd : H pd = some (.tup [.int (gW (wsOf x.jobs bx) i).1, .int (gW (wsOf x.jobs bx) i).2.1, .int (gW (wsOf x.jobs bx) i).2.2.1, .int (gW (wsOf x.jobs bx) i).2.2.2]) := hpd
      generalize gW (wsOf x.jobs bx) i = W at *
      obtain ⟨vi, ei, svi⟩ := vl.at2 (tells_at (n := x.jobs.length) (k := i) (g := gl) li)
      obtain ⟨vb', eb, svb⟩ := vb.at2 (tells_at (n := x.jobs.length) (k := i) (g := gb) li)
      have lds : ds.length ≤ 2 * i := by rw [dv.len]; exact drawsG_len ..
      refine ⟨_, rfl, _, rfl, pw, us, (i : Int), _, rfl, rfl, sq_tup (sT _ _ hp), atI_nat ud, pd, _, 0, _, rfl, rfl, sq_tup (sT _ _ hpd), rfl, _, rfl, _, rfl, pw, us, (i : Int), _, rfl, rfl, sq_tup (sT _ _ hp), atI_nat ud, pd, _, 1, _, rfl, rfl, sq_tup (sT _ _ hpd), rfl, _, _, rfl, ?_⟩
      refine ⟨fun σ H' => ∃ ds1, σ = [some v, some (.ref pw), some (.ref pl), some (.ref pb), some (.ref D), some (.int (i : Nat)), some (.int (j.1 : Nat)), some (.int j.2.1), some (.int j.2.2), some (.int (lowJG W (gl i))), some (.int W.2.1), y11] ∧ Same H H' ∧ TK H1 H' ∧ H' D = some (.lst (ds ++ ds1)) ∧ ds1.length ≤ 1 ∧ All2 (DrV k H') (ds ++ ds1) (drawsG x.jobs (wsOf x.jobs bx) gl gb i ++ dr0G j.1 W (gl i)), ?_, fun σ H3 hM => ?_⟩
      · refine ⟨_, rfl, _, rfl, pl, yl, (i : Int), vi, rfl, rfl, sq_lst (sT _ _ hl), atI_nat ei, ?_⟩
        cases hg : gl i with
        | none =>
          rw [hg] at svi
          have e : vi = .non := svi
          subst e
          exact ⟨rfl, _, rfl, iteF' (by simp) ⟨[], rfl, sT, tkT, by rw [List.append_nil]; exact hDT, by simp, by rw [List.append_nil]; show All2 _ _ (_ ++ []); rw [List.append_nil]; exact dvT⟩⟩
        | some s =>
          rw [hg] at svi
          obtain ⟨s, Ls⟩ := s
          obtain ⟨p, lf, rfl, hps, hlf⟩ := svi
          have hps : H p = some (.tup [.int s, lf]) := hps
          refine ⟨rfl, _, rfl, iteT' (by simp) ⟨_, rfl, _, rfl, pl, yl, (i : Int), .ref p, rfl, rfl, sq_lst (sT _ _ hl), atI_nat ei, p, _, 0, _, rfl, rfl, sq_tup (sT _ _ hps), rfl, _, rfl, _, _, rfl, rfl, _, rfl, ite2 (fun c1 => ?_) (fun c1 => ?_)⟩⟩
          · have c1 : W.1 < s := of_decide_eq_true c1
            refine ⟨_, rfl, _, rfl, pl, yl, (i : Int), .ref p, rfl, rfl, sq_lst (sT _ _ hl), atI_nat ei, p, _, 0, _, rfl, rfl, sq_tup (sT _ _ hps), rfl, ?_⟩
            refine ⟨_, rfl, .inl ⟨rfl, _, sq_lst hDT⟩, _, rfl, _, rfl, _, rfl, _, rfl, pl, yl, (i : Int), .ref p, rfl, rfl, sq_lst (sT _ _ hl), atI_nat ei, p, _, 1, _, rfl, rfl, sq_tup (sT _ _ hps), rfl, len4, fun t2 nt2 => ?_⟩
            have k4 := same_upd (o := .tup [.int (j.1 : Nat), .int 0, .int s, lf]) nt2
            have hD4 := k4 _ _ hDT
            refine ⟨D, _, _, rfl, rfl, hD4, small1000 (by omega), [.ref t2], ?_, same_at (sT.trans k4) nD, (tkT.trans (TK.of k4)).trans (TK.put hD4), upd_same, by simp, ?_⟩
            · have e : lowJG W (some (s, Ls)) = s := by unfold lowJG lowJ; simp only [Option.map]; rw [if_pos c1]
              rw [e]; rfl
            · have e : dr0G j.1 W (some (s, Ls)) = [((j.1, 0, s), Ls)] := by unfold dr0G; simp only []; rw [if_pos c1]
              rw [e]
              exact drTk (TK.put hD4) ((drTk (TK.of k4) dvT).app ⟨t2, lf, rfl, upd_same, hlf.tk ((TK.of sT).trans (TK.of k4))⟩)
          · have c1 : ¬ W.1 < s := fun h => c1 (decide_eq_true h)
            refine ⟨[], ?_, sT, tkT, by rw [List.append_nil]; exact hDT, by simp, ?_⟩
            · have e : lowJG W (some (s, Ls)) = W.1 := by unfold lowJG lowJ; simp only [Option.map]; rw [if_neg c1]
              rw [e]; rfl
            · have e : dr0G j.1 W (some (s, Ls)) = [] := by unfold dr0G; simp only []; rw [if_neg c1]
              rw [e, List.append_nil, List.append_nil]; exact dvT
      obtain ⟨ds1, rfl, s3, tk3, hD3, ld1, dv3⟩ := hM
      refine ⟨_, rfl, _, rfl, pb, yb, (i : Int), vb', rfl, rfl, sq_lst (s3 _ _ hb), atI_nat eb, ?_⟩
      have stop : dr1G j.1 W (gl i) (gb i) = [] → ∀ y9 y10 y11 : Option V, ∃ (y5 y6 y7 y8 y9' y10' y11' : Option V) (ds' : List V), [some v, some (.ref pw), some (.ref pl), some (.ref pb), some (.ref D), some (.int (i : Nat)), some (.int (j.1 : Nat)), some (.int j.2.1), some (.int j.2.2), y9, y10, y11] = [some v, some (.ref pw), some (.ref pl), some (.ref pb), some (.ref D), y5, y6, y7, y8, y9', y10', y11'] ∧ Same H H3 ∧ TK H1 H3 ∧ H3 D = some (.lst ds') ∧ All2 (DrV k H3) ds' (drawsG x.jobs (wsOf x.jobs bx) gl gb (i + 1)) := fun e y9 y10 y11 => by
        refine ⟨_, _, _, _, _, _, _, ds ++ ds1, rfl, s3, tk3, hD3, ?_⟩
        rw [eg, e, List.append_nil]; exact dv3
      cases hg : gb i with
      | none =>
        rw [hg] at svb stop
        have e : vb' = .non := svb
        subst e
        exact ⟨rfl, _, rfl, iteT' (by simp) (stop rfl _ _ _)⟩
      | some s =>
        rw [hg] at svb stop
        obtain ⟨s, Ls⟩ := s
        obtain ⟨p, lf, rfl, hps, hlf⟩ := svb
        have hps : H p = some (.tup [.int s, lf]) := hps
        refine ⟨rfl, _, rfl, iteF' (by simp) ?_⟩
        refine ⟨_, rfl, _, rfl, pb, yb, (i : Int), .ref p, rfl, rfl, sq_lst (s3 _ _ hb), atI_nat eb, p, _, 0, _, rfl, rfl, sq_tup (s3 _ _ hps), rfl, _, rfl, _, rfl, _, _, rfl, rfl, ?_⟩
        have elen : dr1G j.1 W (gl i) (some (s, Ls)) = if lowJG W (gl i) ≤ -s - j.2.1 ∧ -s - j.2.1 < W.2.1 then [((j.1, 1, -s - j.2.1), lfB Ls)] else [] := by unfold dr1G; rw [eln]
        refine ⟨_, rfl, _, rfl, _, _, rfl, rfl, _, rfl, ite2 (fun c1 => ?_) (fun c1 => ?_)⟩
        · have c1 : lowJG W (gl i) ≤ -s - j.2.1 := of_decide_eq_true c1
          refine ⟨_, rfl, _, _, rfl, rfl, _, rfl, ite2 (fun c2 => ?_) (fun c2 => ?_)⟩
          · have c2 : -s - j.2.1 < W.2.1 := of_decide_eq_true c2
            refine ⟨_, rfl, .inl ⟨rfl, _, sq_lst hD3⟩, _, rfl, _, rfl, _, rfl, _, rfl, pb, yb, (i : Int), .ref p, rfl, rfl, sq_lst (s3 _ _ hb), atI_nat eb, p, _, 1, _, rfl, rfl, sq_tup (s3 _ _ hps), rfl, lf, k, Ls, rfl, hlf.tk (TK.of s3), fun p5 H5 s5 lf5 => ?_⟩
            refine ⟨len4, fun t2 nt2 => ?_⟩
            have k4 := same_upd (o := .tup [.int (j.1 : Nat), .int 1, .int (-s - j.2.1), .ref p5]) nt2
            have hD5 := k4 _ _ (s5 _ _ hD3)
            refine ⟨D, _, _, rfl, rfl, hD5, small1000 (by rw [List.length_append]; omega), ?_⟩
            refine ⟨_, _, _, _, _, _, _, (ds ++ ds1) ++ [.ref t2], rfl, same_at ((s3.trans s5).trans k4) nD, (tk3.trans ((TK.of s5).trans (TK.of k4))).trans (TK.put hD5), upd_same, ?_⟩
            rw [eg, hg, elen, if_pos ⟨c1, c2⟩, ← List.append_assoc]
            exact drTk (TK.put hD5) ((drTk ((TK.of s5).trans (TK.of k4)) dv3).app ⟨t2, .ref p5, rfl, upd_same, lf5.tk (TK.of k4)⟩)
          · exact stop (by rw [elen, if_neg fun h => c2 (decide_eq_true h.2)]) _ _ _
        · exact ⟨_, rfl, iteF' (by decide) (stop (by rw [elen, if_neg fun h => c1 (decide_eq_true h.1)]) _ _ _)⟩
    · obtain ⟨y5, y6, y7, y8, y9, y10, y11, ds, rfl, sm, tk, hD, dv⟩ := h
      rw [lj.len] at dv
      refine ⟨_, rfl, D, _, rfl, .inl ⟨sq_lst hD, fun t nt => ?_⟩⟩
      exact q t ds _ (sm.trans (same_upd nt)) upd_same (drTk (TK.of (same_upd nt)) dv)
end
end M60

namespace M60
open PySem PySem.Spec PyProof.Rows L2 SX Own Gd
open C8 (Cal pe_c pe_gc pe_mk Mak pss_cut)
open M12
theorem wsb_of {n : Nat} {z : Int} {js : List Jb} {bx : Bx} (wj : WJ n z js) (bo : BxOk bx) (bl : bx.length = n) : WsB (wsOf js bx) z := by
  refine ⟨ws_ok wj.ok bo bl, by rw [ws_len]; exact wj.few, fun k hk => ?_, wj.z1, wj.zb⟩
  rw [ws_len] at hk
  unfold ln
  rw [ws_at hk]
  exact wj.lb _ (jA_mem hk)
theorem wsb_bw {ws : List Wd} {z : Int} (h : WsB ws z) : WsB (bw ws) z := by
  refine ⟨bw_ok h.ok, by rw [bw_len]; exact h.few, fun k hk => ?_, h.z1, h.zb⟩
  rw [bw_len] at hk
  have := h.lb k hk
  unfold ln at *
  rw [bw_at hk]; exact this
theorem TwB.tk {C : Addr} {H H' : Hp} {v b : V} {k n : Nat} {x : Wish} {bx : Bx} (h : TwB C H v b k n x bx) (tv : ∀ ul wl goal, TaskV C H v ul wl goal → TaskV C H' v ul wl goal) (s : TK H H') : TwB C H' v b k n x bx := by
  obtain ⟨⟨ul, wl, goal, t, e⟩, ok, j, bv, bl⟩ := h
  exact ⟨⟨ul, wl, goal, tv _ _ _ t, e⟩, ok, j, bv.tk s, bl⟩
theorem TaskV.ext {C : Addr} {H H' : Hp} {v : V} {ul : List Unk} {wl : List Wish} {goal : List Int} (h : TaskV C H v ul wl goal) (e : LamX.ExtN H H') : TaskV C H' v ul wl goal := by
  obtain ⟨x, dx, pu, pw, pg, us, ws, rfl, hx, hpu, uv, hpw, wv, hpg⟩ := h
  have tk := TK.ext e
  exact ⟨x, dx, pu, pw, pg, us, ws, rfl, e _ _ hx (fun ps z => by cases z), tk _ _ hpu, uv.tk tk, tk _ _ hpw, wv.mono fun _ _ g => g.tk tk, tk _ _ hpg⟩
theorem TwB.ext {C : Addr} {H H' : Hp} {v b : V} {k n : Nat} {x : Wish} {bx : Bx} (h : TwB C H v b k n x bx) (e : LamX.ExtN H H') : TwB C H' v b k n x bx := h.tk (fun _ _ _ t => t.ext e) (TK.ext e)
section
variable {P : Program} {w : World} {K : PySem.W.Frag} {mg : Str → Option Value} {base : Heap} {aW aT : Addr} {es : Array DictEntry} {nn : Nat}
def spDraws (C : Addr) (T0 : List (Addr × Str)) : Sp := fun vs H Q _ => ∃ (v b : V) (k n : Nat) (x : Wish) (bx : Bx), vs = [v, .int k, b] ∧ TwB C H v b k n x bx ∧ BxOk bx ∧ x.isR = false ∧ LamX.Tabs T0 H ∧
  (leafB false (wsOf x.jobs bx) x.size = true → ∀ p lf L fs H', IsLows (wsOf x.jobs bx) fs → LeafX (wsOf x.jobs bx) x.size fs L → Xt T0 H H' → H' p = some (.tup [.str "leaf", lf]) → LfV k H' lf L → Q (.ref p) H') ∧
  (leafB false (wsOf x.jobs bx) x.size = false → ∀ p ds fs gs H', IsLows (wsOf x.jobs bx) fs → IsLows (bw (wsOf x.jobs bx)) gs → Xt T0 H H' → H' p = some (.tup ds) → All2 (DrV k H') ds (drawsG x.jobs (wsOf x.jobs bx) (startG (wsOf x.jobs bx) x.size fs) (startG (bw (wsOf x.jobs bx)) x.size gs) x.jobs.length) → Q (.ref p) H')
abbrev s_bench_draws : Stmt := topS 25
abbrev n_bench_draws : List Str := ["task", "k", "box", "wish", "windows", "size", "leaf", "backward"]
theorem sc_bench_draws : FnScope n_bench_draws ["task", "k", "box"] (defScope s_bench_draws) := ⟨rfl, rfl, rfl, by decide +kernel, rfl, by decide +kernel, by decide +kernel⟩
theorem ok_bench_draws {f C : Addr} {T0 : List (Addr × Str)} {fd : FuncData} (F : Fun K "bench_draws" "bench_draws" s_bench_draws f fd) (cc : CC K C) (c_job_windows : Cal P w K mg base 2 "job_windows" (spWin C) []) (c_size_of : Cal P w K mg base 1 "size_of" spSize []) (c_bench_leaf : Cal P w K mg base 10 "bench_leaf" (spLeaf T0) []) (c_bench_starts : Cal P w K mg base 10 "bench_starts" (spStarts T0) []) (c_backwards : Cal P w K mg base 1 "backwards" spBack []) (c_draws_of_starts : Cal P w K mg base 2 "draws_of_starts" spDrs []) : FnOk P w K mg base CX0 11 f fd ["task", "k", "box"] (spDraws C T0) := by
  refine F.ok sc_bench_draws (fun vs H Q E h => ?_) (fun cdv A outer s0 H vs Q E hr h => ?_)
  · obtain ⟨v, b, k, n, x, bx, rfl, _⟩ := h
    rfl
  · obtain ⟨v, b, k, n, y, bx, rfl, tw, bo, hR, tt, q1, q2⟩ := h
    obtain ⟨⟨ul, wl, goal, ⟨x, dx, pu, pw, pg, us, ws, rfl, hx, hpu, uv, hpw, wv, hpg⟩, hk, en⟩, ok, hJ, bv, bl⟩ := id tw
    obtain ⟨vw, hwk, wvk⟩ := wv.at2 hk
    have wj := ok.wj hJ
    have wb := wsb_of wj bo bl
    have lw := ws_len y.jobs bx
    have few := wj.few
    refine ⟨_, (pss_cons (ps_set (i := 3) sc_bench_draws.nd rfl (.inl rfl) (pe_ix ix_tup (pe_fld (pv 0) (by rfl)) (pv 1) (fun _ _ => rfl)))
      (pss_cons (ps_par (i := 4) (j := 5) (by rfl) sc_bench_draws.nd rfl rfl (by decide) rfl rfl (pa_cons (pe_c c_job_windows hr (by decide) (by rfl) (pa_cons (pv 0) (pa_cons (pv 1) (pa_cons (pv 2) pa_nil)))) (pa_cons (pe_c c_size_of hr (by decide) (by rfl) (pa_cons (pv 3) pa_nil)) pa_nil)) (by rfl))
      (pss_cons (ps_set (i := 6) sc_bench_draws.nd rfl (.inl rfl) (pe_c c_bench_leaf hr (by decide) (by rfl) (pa_cons (pv 1) (pa_cons (pv 4) (pa_cons (pv 5) pa_nil)))))
      (pss_cons (ps_if (pt_cmpR op_notN (pv 6) pe_non (nomark _)) (pss_one (ps_ret (pe_tup (pa_cons pe_str (pa_cons (pv 6) pa_nil))))) pss_nil)
      (pss_cons (ps_set (i := 7) sc_bench_draws.nd rfl (.inl rfl) (pe_c c_bench_starts hr (by decide) (by rfl) (pa_cons (pv 1) (pa_cons (pe_c c_backwards hr (by decide) (by rfl) (pa_cons (pv 4) pa_nil)) (pa_cons (pv 5) pa_nil)))))
      (pss_one (ps_ret (pe_c c_draws_of_starts hr (by decide) (by rfl) (pa_cons (pv 3) (pa_cons (pv 4) (pa_cons (pe_c c_bench_starts hr (by decide) (by rfl) (pa_cons (pv 1) (pa_cons (pv 4) (pa_cons (pv 5) pa_nil)))) (pa_cons (pv 7) pa_nil)))))))))))), ?_⟩
    refine ⟨_, rfl, x, C, dx, _, _, rfl, hx, cc.cl, cc.nw, lk_w _ _ _, _, rfl, pw, _, _, _, rfl, rfl, sq_tup hpw, atI_nat hwk, ?_⟩
    refine ⟨_, rfl, _, rfl, _, rfl, .ref x, b, k, n, y, bx, rfl, tw, fun pws wus H1 s1 hpws lv => ?_⟩
    refine ⟨_, rfl, vw, y, rfl, wvk.same s1, hJ, _, _, rfl, ?_⟩
    have t1 : LamX.Tabs T0 H1 := fun p hp => (tt p hp).ext s1
    have x1 : Xt T0 H H1 := (Xt.refl tt).same s1
    refine ⟨_, rfl, _, rfl, _, rfl, k, y.size, pws, wus, wsOf y.jobs bx, rfl, hpws, lv, wb, t1, fun e lf L fs H2 ilw lfx x2 hlf => ?_, fun e H2 x2 => ?_⟩
    · obtain ⟨pl, rfl⟩ := hlf.ref
      refine ⟨_, rfl, rfl, _, rfl, iteT' (by simp) ⟨_, rfl, len2, fun t nt => ?_⟩⟩
      exact q1 e t _ L fs _ ilw lfx ((x1.trans x2).new nt) upd_same (hlf.tk (TK.of (same_upd nt)))
    · refine ⟨_, rfl, rfl, _, rfl, iteF' (by simp) ?_⟩
      have x02 := x1.trans x2
      refine ⟨_, rfl, _, rfl, .ref pws, wsOf y.jobs bx, rfl, ⟨pws, wus, rfl, x2.tk _ _ hpws, wdTk x2.tk lv⟩, by omega, fun pb bus H3 s3 hpb lb => ⟨_, rfl, k, y.size, pb, bus, bw (wsOf y.jobs bx), rfl, hpb, lb, wsb_bw wb, (x02.same s3).t, fun D1 y1 gs H4 ilg x4 h1 v1 => ?_⟩⟩
      have x04 := (x02.same s3).trans x4
      have tk14 := (x2.tk.trans (TK.of s3)).trans x4.tk
      refine ⟨_, rfl, _, rfl, _, rfl, _, rfl, _, rfl, k, y.size, pws, wus, wsOf y.jobs bx, rfl, tk14 _ _ hpws, wdTk tk14 lv, wb, x04.t, fun D2 y2 fs H5 ilw x5 h2 v2 => ?_⟩
      have tk15 := tk14.trans x5.tk
      have x05 := x04.trans x5
      have v1' := stTk x5.tk v1
      rw [bw_len, lw] at v1'
      rw [lw] at v2
      refine ⟨_, rfl, vw, k, y, n, bx, pws, D2, D1, wus, y2, y1, _, _, rfl, wvk.tk x05.tk, hJ, ok, tk15 _ _ hpws, wdTk tk15 lv, h2, v2, x5.lst h1, v1', fun p ds H6 s6 hp dv => ?_⟩
      exact q2 e p ds fs gs _ ilw ilg (x05.same s6) hp dv
end
end M60

namespace M60
open PySem PySem.Spec PyProof.Rows L2 SX Own Gd
open C8 (Cal pe_c pe_gc pe_mk Mak pss_cut)
open M12
section
variable {P : Program} {w : World} {K : PySem.W.Frag} {mg : Str → Option Value} {base : Heap} {aW aT : Addr} {es : Array DictEntry} {nn : Nat}
abbrev s_Ldraw : Stmt := topS 100
abbrev n_Ldraw : List Str := ["heap", "many", "rest"]
theorem sc_Ldraw : FnScope n_Ldraw ["heap", "many"] (defScope s_Ldraw) := ⟨rfl, rfl, rfl, by decide +kernel, rfl, by decide +kernel, by decide +kernel⟩
def spDraw : Sp := fun vs H Q _ => ∃ (h q : Addr) (n : Int), vs = [.ref h, .int n] ∧ HpAt H h q ∧ 0 < n ∧ n < 1073741824 ∧ ∀ d H', 0 ≤ d → d < n → HpAt H' h q → Kpt h q H H' → Q (.int d) H'
theorem ok_draw {f : Addr} {fd : FuncData} (F : Fun K "_law_draw" "_law_draw" s_Ldraw f fd) (T : Txt K mg w aW aT es nn) : FnOk P w K mg base CX0 1 f fd ["heap", "many"] spDraw := by
  refine F.ok sc_Ldraw (fun vs H Q E h => ?_) (fun cdv A outer s H vs Q E hr h => ?_)
  · obtain ⟨h, q, n, rfl, _⟩ := h
    rfl
  · obtain ⟨h, q, n, rfl, ⟨cs0, st0, a0⟩, hn, hn2, k⟩ := h
    refine ⟨_, (pss_cut (ps_while PassesOwn.never (PW.pt (pw_and (pt_cmpR (op_neD hr.units) (pe_ix ix_list (pv 0) pe_int (fun _ _ => rfl)) (pe_lst pa_nil) (nomark _)) (pw_and1 (pt_cmpR op_eq (pe_ix ix_list (pe_ix ix_list (pv 0) pe_int (fun _ _ => rfl)) (pe_un un_neg pe_int) (fun _ _ => rfl)) pe_int (nomark _))))) (pss_one (ps_expr (pe_bm0 PySem.F.plainAttrs_list PySem.F.slot_list_pop PySem.F.type_list_pop mt_pop (pe_ix ix_list (pv 0) pe_int (fun _ _ => rfl))))))
      (pss_cons (ps_if (pt_cmpR (op_neD hr.units) (pe_ix ix_list (pv 0) pe_int (fun _ _ => rfl)) (pe_lst pa_nil) (nomark _)) (pss_cons (ps_set (i := 2) sc_Ldraw.nd rfl (.inl rfl) (pe_bm0 PySem.F.plainAttrs_list PySem.F.slot_list_pop PySem.F.type_list_pop mt_pop (pe_ix ix_list (pv 0) pe_int (fun _ _ => rfl))))
        (pss_cons (ps_expr (pe_bm PySem.F.plainAttrs_list PySem.F.slot_list_append PySem.F.type_list_append mt_append (pe_ix ix_list (pv 0) pe_int (fun _ _ => rfl)) (pa_cons (pe_op op_fdiv (pv 2) (pv 1)) pa_nil)))
        (pss_one (ps_ret (pe_op op_mod (pe_callTy call_int1 (by rfl) T.b_int (by decide +kernel) (pa_cons (pv 2) pa_nil)) (pv 1)))))) pss_nil)
      (pss_cons (ps_asg (pe_op op_mod (pe_callTy call_int1 (by rfl) T.b_int (by decide +kernel) (pa_cons (pe_op op_add (pe_op op_mul (pe_ix ix_list (pv 0) pe_int (fun _ _ => rfl)) pe_int) pe_int) pa_nil)) pe_int) (pg_sub (pv 0) pe_int set_list))
      (pss_one (ps_ret (pe_op op_mod (pe_callTy call_int1 (by rfl) T.b_int (by decide +kernel) (pa_cons (pe_op op_fdiv (pe_ix ix_list (pv 0) pe_int (fun _ _ => rfl)) pe_int) pa_nil)) (pv 1))))))), ?_⟩
    refine ⟨fun σ H' => ∃ cs st y, σ = [some (.ref h), some (.int n), y] ∧ HpL H' h q cs st ∧ Kpt h q H H', ?_, fun σ H1 hM => ?_⟩
    · refine ⟨fun m σ H' => ∃ cs st y, σ = [some (.ref h), some (.int n), y] ∧ HpL H' h q cs st ∧ Kpt h q H H' ∧ m = cs.length, ⟨_, cs0, st0, none, rfl, a0, Kpt.refl _ _ _, rfl⟩, fun m σ H1 hW => ?_⟩
      obtain ⟨cs, st, y, rfl, a, kp, rfl⟩ := hW
      refine ⟨_, rfl, h, _, 0, .ref q, rfl, rfl, sq_lst a.hh, rfl, Nat.zero_le _, fun p np => ?_⟩
      have sm : Same H1 (upd H1 p (.lst [])) := same_upd np
      have a2 := a.same sm
      refine ⟨_, _, .lst (sq_lst a2.hq) (dp_ints cs), .lst (sq_lst upd_same) .nil, shp_ints cs, shp_ints [], _, rfl, ?_⟩
      rcases List.eq_nil_or_concat cs with rfl | ⟨ds, c, rfl⟩
      · refine iteF ?_
        exact ⟨[], st, y, rfl, a2, kp.trans (.of_same sm)⟩
      · have e : PyData.eqv (.list ((ds.concat c).map PyData.int)) (.list []) = false := by
          rw [List.concat_eq_append, List.map_append, PyData.eqv]
          cases ds with
          | nil => rfl
          | cons d r => rfl
        rw [e]
        refine iteT ?_
        have el : (ds.concat c).map V.int = ds.map V.int ++ [.int c] := by rw [List.concat_eq_append, List.map_append]; rfl
        refine ⟨_, rfl, h, _, 0, .ref q, rfl, rfl, sq_lst a2.hh, rfl, _, rfl, q, _, -1, .int c, rfl, rfl, sq_lst a2.hq, (by rw [el]; exact atI_last _ _), rfl, _, rfl, ite2 (fun hz => ?_) (fun hz => ?_)⟩
        · refine ⟨fun σ' H' => ∃ m', m' < (ds.concat c).length ∧ _, fun _ _ z => z, ?_⟩
          refine ⟨_, rfl, h, _, 0, .ref q, rfl, rfl, sq_lst a2.hh, rfl, .inl ⟨rfl, _, sq_lst a2.hq⟩, q, _, .int c, rfl, rfl, a2.hq, ?_, ds.length, ?_, ds, st, y, rfl, ?_, ?_, rfl⟩
          · rw [el, List.length_append, List.length_singleton, Nat.add_sub_cancel, List.getElem?_append_right (Nat.le_refl _), Nat.sub_self]; rfl
          · rw [List.length_concat]; omega
          · rw [el, List.dropLast_concat]
            refine a2.put ds (fun x hx => a.nn x (by rw [List.concat_eq_append]; exact List.mem_append_left _ hx)) ?_
            have := a.ln; rw [List.length_concat] at this; omega
          · exact (kp.trans (.of_same sm)).trans .at_q
        · exact ⟨ds.concat c, st, y, rfl, a2, kp.trans (.of_same sm)⟩
    · obtain ⟨cs, st, y, rfl, a, kp⟩ := hM
      refine ⟨_, rfl, h, _, 0, .ref q, rfl, rfl, sq_lst a.hh, rfl, Nat.zero_le _, fun p np => ?_⟩
      have sm : Same H1 (upd H1 p (.lst [])) := same_upd np
      have a2 := a.same sm
      refine ⟨_, _, .lst (sq_lst a2.hq) (dp_ints cs), .lst (sq_lst upd_same) .nil, shp_ints cs, shp_ints [], _, rfl, ?_⟩
      have kp2 := kp.trans (.of_same (h := h) (q := q) sm)
      rcases List.eq_nil_or_concat cs with rfl | ⟨ds, c, rfl⟩
      · refine iteF ?_
        have b1 : (0 : Int) ≤ (st * 69621 + 29) % 2147483647 := Int.emod_nonneg _ (by decide)
        have b2 : (st * 69621 + 29) % 2147483647 < 2147483647 := Int.emod_lt_of_pos _ (by decide)
        refine ⟨_, rfl, h, _, 1, .int st, rfl, rfl, sq_lst a2.hh, rfl, _, _, rfl, rfl, .inr ⟨by decide, by decide⟩, _, _, rfl, rfl, .inl ⟨_, rfl, _, _, rfl, rfl, (by show (0 : Int) < 2147483647; decide), _, rfl, h, _, 1, 1, rfl, rfl, a2.hh, rfl, ?_⟩⟩
        have a3 : HpL (upd (upd H1 p (.lst [])) h (.lst [.ref q, .int ((st * 69621 + 29) % 2147483647)])) h q [] ((st * 69621 + 29) % 2147483647) :=
          ⟨a.ne, upd_same, by rw [upd_ne a.ne.symm]; exact a2.hq, a.nn, a.ln, b1, b2⟩
        refine ⟨_, rfl, h, _, 1, _, rfl, rfl, sq_lst a3.hh, rfl, _, _, rfl, rfl, ⟨by decide, by decide⟩, .inl ⟨_, rfl, _, rfl, _, _, rfl, rfl, hn, ?_⟩⟩
        exact k _ _ (Int.emod_nonneg _ (by omega)) (Int.emod_lt_of_pos _ hn) ⟨_, _, a3⟩ (kp2.trans .at_h)
      · have e : PyData.eqv (.list ((ds.concat c).map PyData.int)) (.list []) = false := by
          rw [List.concat_eq_append, List.map_append, PyData.eqv]
          cases ds with
          | nil => rfl
          | cons d r => rfl
        rw [e]
        refine iteT ?_
        have el : (ds.concat c).map V.int = ds.map V.int ++ [.int c] := by rw [List.concat_eq_append, List.map_append]; rfl
        have c0 : 0 ≤ c := a.nn c (by rw [List.concat_eq_append]; simp)
        have dl : ds.length + 1 ≤ 60 := by have := a.ln; rwa [List.length_concat] at this
        refine ⟨_, rfl, h, _, 0, .ref q, rfl, rfl, sq_lst a2.hh, rfl, .inl ⟨rfl, _, sq_lst a2.hq⟩, q, _, .int c, rfl, rfl, a2.hq, ?_, ?_⟩
        · rw [el, List.length_append, List.length_singleton, Nat.add_sub_cancel, List.getElem?_append_right (Nat.le_refl _), Nat.sub_self]; rfl
        · rw [el, List.dropLast_concat]
          have a3 := a2.put ds (fun x hx => a.nn x (by rw [List.concat_eq_append]; exact List.mem_append_left _ hx)) (by omega)
          refine ⟨_, rfl, h, _, 0, .ref q, rfl, rfl, sq_lst a3.hh, rfl, .inl ⟨rfl, _, sq_lst a3.hq⟩, _, rfl, _, rfl, _, _, rfl, rfl, ⟨hn, hn2⟩, q, _, _, rfl, rfl, a3.hq, ?_, ?_⟩
          · rw [List.length_map]; exact small1000 (by omega)
          · have a4 := a3.put (ds ++ [c / n]) (fun x hx => by
              rcases List.mem_append.mp hx with z | z
              · exact a3.nn x z
              · rw [List.mem_singleton.mp z]; exact Int.ediv_nonneg c0 (by omega)) (by rw [List.length_append]; exact dl)
            rw [List.map_append] at a4
            refine ⟨_, rfl, .inl ⟨_, rfl, _, rfl, _, _, rfl, rfl, hn, ?_⟩⟩
            exact k _ _ (Int.emod_nonneg _ (by omega)) (Int.emod_lt_of_pos _ hn) ⟨_, _, a4⟩ ((kp2.trans .at_q).trans .at_q)
abbrev s_Lheap : Stmt := topS 99
abbrev n_Lheap : List Str := ["script", "cell", "cells", "stir"]
theorem sc_Lheap : FnScope n_Lheap ["script"] (defScope s_Lheap) := ⟨rfl, rfl, rfl, by decide +kernel, rfl, by decide +kernel, by decide +kernel⟩
def spHeap (K : PySem.W.Frag) : Sp := fun vs H Q _ => ∃ (a : Addr) (ns : List Int), vs = [.ref a] ∧ SqL K H a (ns.map V.int) ∧ ns.length ≤ 63 ∧ ∀ H' h q, Same H H' → H h = none → H q = none → HpAt H' h q → Q (.ref h) H'
theorem ok_heap {f : Addr} {fd : FuncData} (F : Fun K "_law_heap" "_law_heap" s_Lheap f fd) (T : Txt K mg w aW aT es nn) : FnOk P w K mg base CX0 1 f fd ["script"] (spHeap K) := by
  refine F.ok sc_Lheap (fun vs H Q E h => ?_) (fun cdv A outer s H vs Q E hr h => ?_)
  · obtain ⟨a, ns, rfl, _⟩ := h
    rfl
  · obtain ⟨a, ns, rfl, hS, hlen, k⟩ := h
    refine ⟨_, (pss_cons (ps_par (i := 2) (j := 3) (by rfl) sc_Lheap.nd rfl rfl (by decide) rfl rfl (pa_cons (pe_lc (own := [("cell", 1)]) rfl sc_Lheap.nd (pi_list (pe_slice sl_list (pv 0) po_none (po_some pe_int))) (blkOk_by (N := n_Lheap) (sc := defScope s_Lheap) (by decide +kernel)) (fun _ _ _ _ _ => (pg_name (i := 1) sc_Lheap.nd rfl (.inl rfl))) (fun _ _ _ _ _ => pts_nil) (fun _ _ _ _ _ => (pe_op op_add (pe_op op_mul pe_int (pe_callB call_abs (by rfl) T.b_abs (by decide +kernel) (pa_cons (pv 1) pa_nil))) (pe_callTy call_int1 (by rfl) T.b_int (by decide +kernel) (pa_cons (pe_cmpR op_lt (pv 1) pe_int (nomark _)) pa_nil))))) (pa_cons pe_int pa_nil)) (by rfl))
      (pss_cons (ps_for PassesOwn.never rfl (pi_list (pv 2)) (pg_name (i := 1) sc_Lheap.nd rfl (.inl rfl)) (pss_one (ps_set (i := 3) sc_Lheap.nd rfl (.inl rfl) (pe_op op_mod (pe_callTy call_int1 (by rfl) T.b_int (by decide +kernel) (pa_cons (pe_op op_add (pe_op op_add (pe_op op_mul (pv 3) pe_int) (pe_op op_mod (pe_callTy call_int1 (by rfl) T.b_int (by decide +kernel) (pa_cons (pv 1) pa_nil)) pe_int)) pe_int) pa_nil)) pe_int))))
      (pss_one (ps_ret (pe_lst (pa_cons (pe_revL (pe_lc (own := [("cell", 1)]) rfl sc_Lheap.nd (pi_list (pv 2)) (blkOk_by (N := n_Lheap) (sc := defScope s_Lheap) (by decide +kernel)) (fun _ _ _ _ _ => (pg_name (i := 1) sc_Lheap.nd rfl (.inl rfl))) (fun _ _ _ _ _ => (pts_one (pt_cmpR op_ge (pv 1) (pe_op op_pow pe_int pe_int) (nomark _)))) (fun _ _ _ _ _ => (pv 1)))) (pa_cons (pv 3) pa_nil))))))), ?_⟩
    refine ⟨_, rfl, _, rfl, a, _, rfl, hS, fun p np => ?_⟩
    rw [cut60]
    have s1 : Same H (upd H p (.lst ((ns.take 60).map V.int))) := same_upd np
    refine ⟨p, rfl, ⟨_, sq_lst upd_same⟩, fun D nD => ?_⟩
    have nDH : H D = none := s1.free nD
    have hDp : p ≠ D := ne_of_none upd_same nD
    refine lc_list (K := K) (a := p) (xs := (ns.take 60).map V.int) (fun i H' => ∃ cs : List Int, H' D = some (.lst (cs.map V.int)) ∧ (∀ c ∈ cs, 0 ≤ c) ∧ cs.length = i ∧ H' p = some (.lst ((ns.take 60).map V.int)) ∧ Same H H')
      ⟨[], upd_same, by simp, rfl, by rw [upd_ne hDp]; exact upd_same, same_at s1 nDH⟩ (fun i H' _ ⟨_, _, _, _, e, _⟩ => sq_lst e) ?_ ?_
    · rintro i x H' hi ⟨cs, hD, c0, cl, hp, sm⟩
      obtain ⟨z, hz, rfl⟩ := get_int hi
      have hil : i < (ns.take 60).length := (List.getElem?_eq_some_iff.mp hz).1
      rw [List.length_take] at hil
      refine ⟨rfl, _, rfl, z, rfl, _, _, rfl, rfl, .inl ⟨by decide, by decide⟩, _, rfl, _, _, rfl, rfl, .inr ⟨_, rfl, _, _, rfl, rfl, cs.map V.int, hD, (by rw [List.length_map]; exact small1000 (by omega)), cs ++ [2 * (if z < 0 then -z else z) + if decide (z < 0) = true then 1 else 0], ?_, ?_, ?_, ?_, same_at sm nDH⟩⟩
      · rw [upd_same, List.map_append]; rfl
      · intro c hc
        rcases List.mem_append.mp hc with h | h
        · exact c0 c h
        · rw [List.mem_singleton.mp h]; split <;> split <;> omega
      · rw [List.length_append, cl]; rfl
      · rw [upd_ne hDp]; exact hp
    · rintro H2 ⟨cs, hD, c0, cl, hp, sm⟩
      have cl60 : cs.length ≤ 60 := by rw [cl, List.length_map, List.length_take]; omega
      refine ⟨_, _, rfl, ?_⟩
      -- the loop over the cells
      refine ⟨_, rfl, D, rfl, ⟨_, sq_lst hD⟩, for_list (K := K) (a := D) (xs := cs.map V.int) (fun i σ H' => ∃ (y : Option V) (st : Int), σ = [some (.ref a), y, some (.ref D), some (.int st)] ∧ 0 ≤ st ∧ st < 2147483647 ∧ H' = H2)
        ⟨_, 3851, rfl, by decide, by decide, rfl⟩ (fun i σ H' _ ⟨_, _, _, _, _, e⟩ => by rw [e]; exact sq_lst hD) ?_ ?_⟩
      · rintro i x σ H' hi ⟨y, st, rfl, h0, h1, rfl⟩
        obtain ⟨z, hz, rfl⟩ := get_int hi
        refine ⟨_, rfl, _, _, rfl, rfl, .inl ⟨by omega, by omega⟩, _, rfl, .inl ⟨_, rfl, _, _, rfl, rfl, (by show (0 : Int) < 2147483563; decide), _, _, rfl, rfl, _, _, rfl, rfl, .inl ⟨_, rfl, _, _, rfl, rfl, (by show (0 : Int) < 2147483647; decide), ?_⟩⟩⟩
        exact ⟨_, _, rfl, Int.emod_nonneg _ (by decide), Int.emod_lt_of_pos _ (by decide), rfl⟩
      · rintro σ H' ⟨y, st, rfl, h0, h1, rfl⟩
        refine ⟨_, rfl, D, rfl, ⟨_, sq_lst hD⟩, fun D2 nD2 => ?_⟩
        have nD2H : H D2 = none := sm.free nD2
        have hDD : D ≠ D2 := ne_of_none hD nD2
        refine lc_list (K := K) (a := D) (xs := cs.map V.int) (fun i H3 => ∃ ds : List Int, H3 D2 = some (.lst (ds.map V.int)) ∧ (∀ c ∈ ds, 0 ≤ c) ∧ ds.length ≤ i ∧ H3 D = some (.lst (cs.map V.int)) ∧ Same H H3)
          ⟨[], upd_same, by simp, Nat.le_refl _, by rw [upd_ne hDD]; exact hD, same_at sm nD2H⟩ (fun i H' _ ⟨_, _, _, _, e, _⟩ => sq_lst e) ?_ ?_
        · rintro i x H3 hi ⟨ds, hd, d0, dl, hc, sm3⟩
          obtain ⟨z, hz, rfl⟩ := get_int hi
          have hil : i < cs.length := (List.getElem?_eq_some_iff.mp hz).1
          have hz0 : 0 ≤ z := c0 z (List.mem_of_getElem? hz)
          refine ⟨rfl, _, rfl, _, _, rfl, rfl, ⟨by decide, by decide, by decide⟩, _, _, rfl, rfl, _, rfl, ite2 (fun _ => ?_) (fun _ => ?_)⟩
          · refine ⟨_, rfl, ds.map V.int, hd, (by rw [List.length_map]; exact small1000 (by omega)), ds ++ [z], ?_, ?_, ?_, ?_, same_at sm3 nD2H⟩
            · rw [upd_same, List.map_append]; rfl
            · intro c hc
              rcases List.mem_append.mp hc with h | h
              · exact d0 c h
              · rw [List.mem_singleton.mp h]; exact hz0
            · rw [List.length_append]; exact Nat.succ_le_succ dl
            · rw [upd_ne hDD]; exact hc
          · exact ⟨ds, hd, d0, by omega, hc, sm3⟩
        · rintro H3 ⟨ds, hd, d0, dl, hc, sm3⟩
          have dl60 : ds.length ≤ 60 := by rw [List.length_map] at dl; omega
          refine ⟨D2, _, rfl, sq_lst hd, fun q nq => ?_⟩
          refine ⟨_, rfl, (by show 2 ≤ sizeLine; decide), fun g ng => ?_⟩
          have s4 := same_at (o := .lst (ds.map V.int).reverse) sm3 (sm3.free nq)
          have s5 := same_at (o := .lst [.ref q, .int st]) s4 (s4.free ng)
          have hgq : g ≠ q := (ne_of_none upd_same ng).symm
          refine k _ g q s5 (s4.free ng) (sm3.free nq) ⟨ds.reverse, st, hgq, upd_same, ?_, ?_, ?_, h0, h1⟩
          · rw [upd_ne hgq.symm, upd_same, List.map_reverse]
          · intro c hc; exact d0 c (List.mem_reverse.mp hc)
          · rw [List.length_reverse]; exact dl60
abbrev s_Lpick : Stmt := topS 101
abbrev n_Lpick : List Str := ["heap", "some"]
theorem sc_Lpick : FnScope n_Lpick ["heap", "some"] (defScope s_Lpick) := ⟨rfl, rfl, rfl, by decide +kernel, rfl, by decide +kernel, by decide +kernel⟩
def spPickL : Sp := fun vs H Q _ => ∃ (h q p : Addr) (xs : List V), vs = [.ref h, .ref p] ∧ HpAt H h q ∧ H p = some (.lst xs) ∧ p ≠ h ∧ p ≠ q ∧ xs ≠ [] ∧ xs.length ≤ 1000 ∧ ∀ v H', v ∈ xs → HpAt H' h q → Kpt h q H H' → Q v H'
theorem ok_pickL {f : Addr} {fd : FuncData} (F : Fun K "_law_pick" "_law_pick" s_Lpick f fd) (T : Txt K mg w aW aT es nn) (c_Ldraw : Cal P w K mg base 1 "_law_draw" spDraw []) : FnOk P w K mg base CX0 2 f fd ["heap", "some"] spPickL := by
  refine F.ok sc_Lpick (fun vs H Q E h => ?_) (fun cdv A outer s H vs Q E hr h => ?_)
  · obtain ⟨h, q, p, xs, rfl, _⟩ := h
    rfl
  · obtain ⟨h, q, p, xs, rfl, a, hp, p1, p2, hl, hn, k⟩ := h
    refine ⟨_, (pss_one (ps_ret (pe_ix ix_list (pv 1) (pe_c c_Ldraw hr (by decide) (by rfl) (pa_cons (pv 0) (pa_cons (pe_callB call_len_seq (by rfl) T.b_len (by decide +kernel) (pa_cons (pv 1) pa_nil)) pa_nil))) (fun _ _ => rfl)))), ?_⟩
    have h1 : 0 < xs.length := List.length_pos_iff.mpr hl
    refine ⟨_, rfl, _, rfl, _, rfl, p, xs, rfl, .inl (sq_lst hp), h, q, (xs.length : Int), rfl, a, by omega, by omega, fun d H' d0 d1 a' kp => ?_⟩
    obtain ⟨j, rfl⟩ : ∃ j : Nat, d = (j : Int) := ⟨d.toNat, by omega⟩
    have hj : j < xs.length := by omega
    exact ⟨p, xs, (j : Int), xs[j], rfl, rfl, sq_lst (kp _ _ hp p1 p2), atI_nat (List.getElem?_eq_getElem hj), k _ _ (List.getElem_mem hj) a' kp⟩
end
end M60

namespace M60
open PySem PySem.Spec PyProof.Rows L2 SX Own Gd
open C8 (Cal pe_c pe_gc pe_mk Mak pss_cut)
open M12
/-! ### quiet boxes -/
def dI (a : List Int) : PyData := .tuple (a.map PyData.int)
theorem dpAllI {K : PySem.W.Frag} {H : Hp} : ∀ a : List Int, DpAll K H (a.map V.int) (a.map PyData.int)
  | [] => .nil
  | c :: a => .cons (.int c) (dpAllI a)
theorem dpT {K : PySem.W.Frag} {H : Hp} {p : Addr} {a : List Int} (h : H p = some (tI a)) : Dp K H (.ref p) (dI a) := .tup (sq_tup h) (dpAllI a)
theorem layI : ∀ a : List Int, PyData.canLayAll0 (a.map PyData.int) = true
  | [] => by simp [PyData.canLayAll0]
  | c :: a => by simp [PyData.canLayAll0, PyData.canLay0, layI a]
theorem depI : ∀ a : List Int, PyData.depthAll (a.map PyData.int) ≤ 1
  | [] => by simp [PyData.depthAll]
  | c :: a => by
    have := depI a
    simp only [List.map_cons, PyData.depthAll, PyData.depth]; omega
/-- data that can be compared -/
structure Flt (k : Nat) (d : PyData) : Prop where
  l : d.canLay0 = true
  p : d.depth ≤ k
theorem Flt.int {k : Nat} (i : Int) : Flt k (.int i) := ⟨by simp only [PyData.canLay0], by simp only [PyData.depth]; omega⟩
theorem Flt.tup {k : Nat} : ∀ {ds : List PyData}, (∀ d ∈ ds, Flt k d) → Flt (k + 1) (.tuple ds) := fun {ds} h => by
  have : ∀ es : List PyData, (∀ d ∈ es, Flt k d) → PyData.canLayAll0 es = true ∧ PyData.depthAll es ≤ k := fun es => by
    induction es with
    | nil => intro _; simp [PyData.canLayAll0, PyData.depthAll]
    | cons d r ih =>
      intro h
      have h1 := h d (List.mem_cons_self ..)
      obtain ⟨a, b⟩ := ih fun x hx => h x (List.mem_cons_of_mem _ hx)
      have h2 := h1.p
      simp only [PyData.canLayAll0, h1.l, a, Bool.and_self, PyData.depthAll, true_and]
      omega
  obtain ⟨a, b⟩ := this ds h
  refine ⟨by simp only [PyData.canLay0, a], by simp only [PyData.depth]; omega⟩
theorem Flt.mono {k m : Nat} {d : PyData} (h : Flt k d) (e : k ≤ m) : Flt m d := ⟨h.l, Nat.le_trans h.p e⟩
theorem Flt.sh {k : Nat} {d : PyData} (h : Flt k d) (e : k ≤ 60) : SeqAt.shaped d = true := by
  unfold SeqAt.shaped
  rw [h.l, Bool.true_and]
  exact decide_eq_true (by have := h.p; omega)
theorem Flt.ints {k : Nat} (a : List Int) : Flt (k + 1) (dI a) := .tup fun d hd => by
  obtain ⟨i, _, rfl⟩ := List.mem_map.mp hd
  exact .int i
theorem Flt.strL {k : Nat} : Flt k (.str "late") ∧ Flt k (.str "load") ∧ Flt k (.str "full") ∧ Flt k (.str "leaf") := by
  refine ⟨⟨by decide +kernel, ?_⟩, ⟨by decide +kernel, ?_⟩, ⟨by decide +kernel, ?_⟩, ⟨by decide +kernel, ?_⟩⟩ <;> simp only [PyData.depth] <;> omega
/-- a leaf as data -/
def lfD (k : Int) : Lf → PyData
  | .late i o => .tuple [.str "late", .int k, .int (i : Int), .int (o : Int)]
  | .load J f l => .tuple [.str "load", .int k, .tuple (J.map fun a : Nat => PyData.int (a : Int)), .int f, .int l]
  | .full J m => .tuple [.str "full", .int k, .tuple (J.map fun a : Nat => PyData.int (a : Int)), .int m]
theorem dpJ {K : PySem.W.Frag} {H : Hp} : ∀ J : List Nat, DpAll K H (natJ J) (J.map fun a : Nat => PyData.int (a : Int))
  | [] => .nil
  | a :: r => .cons (.int _) (dpJ r)
theorem LfV.dp {K : PySem.W.Frag} {k : Int} {H : Hp} {v : V} {L : Lf} (h : LfV k H v L) : Dp K H v (lfD k L) := by
  cases L with
  | late i o => obtain ⟨p, rfl, h⟩ := h; exact .tup (sq_tup h) (.cons (.str _) (.cons (.int _) (.cons (.int _) (.cons (.int _) .nil))))
  | load J f l => obtain ⟨p, j, rfl, h, g⟩ := h; exact .tup (sq_tup h) (.cons (.str _) (.cons (.int _) (.cons (.tup (sq_tup g) (dpJ J)) (.cons (.int _) (.cons (.int _) .nil)))))
  | full J m => obtain ⟨p, j, rfl, h, g⟩ := h; exact .tup (sq_tup h) (.cons (.str _) (.cons (.int _) (.cons (.tup (sq_tup g) (dpJ J)) (.cons (.int _) .nil))))
def dlD (k : Int) (d : Dl) : PyData := .tuple [.int (d.1.1 : Int), .int d.1.2.1, .int d.1.2.2, lfD k d.2]
theorem DrV.dp {K : PySem.W.Frag} {k : Int} {H : Hp} {v : V} {d : Dl} (h : DrV k H v d) : Dp K H v (dlD k d) := by
  obtain ⟨p, lf, rfl, h, g⟩ := h
  exact .tup (sq_tup h) (.cons (.int _) (.cons (.int _) (.cons (.int _) (.cons g.dp .nil))))
theorem drs_dp {K : PySem.W.Frag} {k : Int} {H : Hp} : ∀ {vs : List V} {ds : List Dl}, All2 (DrV k H) vs ds → DpAll K H vs (ds.map (dlD k))
  | _, _, .nil => .nil
  | _, _, .cons g t => .cons g.dp (drs_dp t)
theorem dpTake1 {K : PySem.W.Frag} {H : Hp} : ∀ {vs : List V} {ds : List PyData}, DpAll K H vs ds → DpAll K H (vs.take 1) (ds.take 1)
  | _, _, .nil => .nil
  | _, _, .cons g _ => .cons g .nil
theorem sl1 {K : PySem.W.Frag} {H : Hp} {p : Addr} {xs : List V} {R : VK} (h : H p = some (.tup xs)) (k : ∀ q H', Same H H' → H' q = some (.tup (xs.take 1)) → R (.ref q) H') : rSlA K (.ref p) none (some 1) H R := by
  refine ⟨p, xs, rfl, sq_tup h, fun z => ?_, fun _ y ny => ?_⟩
  · have z2 := z.2
    rw [show (some 1 : Option Int) = some ((1 : Nat) : Int) from rfl, HT.sIx_nat] at z2
    refine k p H (Same.refl _) ?_
    rw [List.take_of_length_le (by omega)]; exact h
  · refine k y _ (same_upd ny) ?_
    rw [upd_same]
    unfold cutV
    rw [show (some 1 : Option Int) = some ((1 : Nat) : Int) from rfl, HT.sIx_nat, HT.sIx_none, List.drop_zero, Nat.sub_zero]
    congr 2
    by_cases e : 1 ≤ xs.length
    · rw [Nat.min_eq_left e]
    · rw [List.take_of_length_le (by omega), List.take_of_length_le (by omega)]
theorem slTo {K : PySem.W.Frag} {H : Hp} {p : Addr} {xs : List V} {a : Nat} {R : VK} (h : H p = some (.tup xs)) (ha : a < xs.length) (k : ∀ q H', Same H H' → H' q = some (.tup (xs.take a)) → R (.ref q) H') : rSlA K (.ref p) none (some (a : Int)) H R := by
  refine ⟨p, xs, rfl, sq_tup h, fun z => ?_, fun _ y ny => ?_⟩
  · have z2 := z.2
    rw [HT.sIx_nat] at z2
    omega
  · refine k y _ (same_upd ny) ?_
    rw [upd_same]
    unfold cutV
    rw [HT.sIx_nat, HT.sIx_none, List.drop_zero, Nat.sub_zero, Nat.min_eq_left (by omega)]
theorem slFrom {K : PySem.W.Frag} {H : Hp} {p : Addr} {xs : List V} {a : Nat} {R : VK} (h : H p = some (.tup xs)) (ha : a < xs.length) (k : ∀ q H', Same H H' → H' q = some (.tup (xs.drop (a + 1))) → R (.ref q) H') : rSlA K (.ref p) (some ((a : Int) + 1)) none H R := by
  have e : ((a : Int) + 1) = ((a + 1 : Nat) : Int) := by omega
  refine ⟨p, xs, rfl, sq_tup h, fun z => ?_, fun _ y ny => ?_⟩
  · have z1 := z.1
    rw [e, HT.sIx_nat] at z1
    omega
  · refine k y _ (same_upd ny) ?_
    rw [upd_same, e, cut_from (by omega)]
theorem catA {K : PySem.W.Frag} {H : Hp} {a b : Addr} {xs ys : List V} {R : VK} (ha : H a = some (.tup xs)) (hb : H b = some (.tup ys)) (hl : xs.length + ys.length ≤ 1000) (k : ∀ r H', Same H H' → H' r = some (.tup (xs ++ ys)) → R (.ref r) H') : rCatA K (.ref a) (.ref b) H R := by
  refine ⟨a, b, xs, ys, rfl, rfl, sq_tup ha, sq_tup hb, by rw [sizeLine_eq]; omega, fun e => ?_, fun _ e => ?_, fun _ _ p np => k p _ (same_upd np) upd_same⟩
  · subst e; exact k b H (Same.refl _) hb
  · subst e; exact k a H (Same.refl _) (by rw [List.append_nil]; exact ha)
theorem All2.take {α : Type} {R : V → α → Prop} : ∀ {vs : List V} {as : List α} (n : Nat), All2 R vs as → All2 R (vs.take n) (as.take n)
  | _, _, 0, _ => .nil
  | _, _, _ + 1, .nil => .nil
  | _, _, n + 1, .cons g t => .cons g (t.take n)
theorem All2.drop {α : Type} {R : V → α → Prop} : ∀ {vs : List V} {as : List α} (n : Nat), All2 R vs as → All2 R (vs.drop n) (as.drop n)
  | _, _, 0, h => h
  | _, _, _ + 1, .nil => .nil
  | _, _, n + 1, .cons _ t => t.drop n
theorem set_cut {α : Type} : ∀ {l : List α} {p : Nat} {x : α}, p < l.length → l.set p x = (l.take p ++ [x]) ++ l.drop (p + 1)
  | a :: l, 0, x, _ => rfl
  | a :: l, p + 1, x, h => by
    have := set_cut (l := l) (p := p) (x := x) (by simpa using h)
    simp only [List.set_cons_succ, this, List.take_succ_cons, List.drop_succ_cons, List.cons_append]
end M60

/-! The end of a law whose promise wants to know what is under way: it is called by the judge's caller, where nothing is. -/
namespace Gd
open PySem PySem.Spec PyProof.Rows L2 LamX
/-- what is tracked ahead of the law's call: the tables ts, and the script at a unless it is of the written part -/
def h0 (ts : List Addr) (w : Bool) (a : Addr) (o : Obj) (xs : List V) : Hp := fun b => if b ∈ ts then some (.tbl #[]) else if w = true ∧ b = a then some (.frz o (.lst xs)) else none
section
variable {ts : List Addr} {w : Bool} {a b : Addr} {o : Obj} {xs : List V}
theorem h0_tab (h : b ∈ ts) : h0 ts w a o xs b = some (.tbl #[]) := if_pos h
theorem h0_at (h : a ∉ ts) (hw : w = true) : h0 ts w a o xs a = some (.frz o (.lst xs)) := by unfold h0; rw [if_neg h, if_pos ⟨hw, rfl⟩]
theorem h0_none (h : b ∉ ts) (h2 : ¬ (w = true ∧ b = a)) : h0 ts w a o xs b = none := by unfold h0; rw [if_neg h, if_neg h2]
theorem h0_cases (b : Addr) : (b ∈ ts ∧ h0 ts w a o xs b = some (.tbl #[])) ∨ (b ∉ ts ∧ w = true ∧ b = a ∧ h0 ts w a o xs b = some (.frz o (.lst xs))) ∨ (b ∉ ts ∧ ¬ (w = true ∧ b = a) ∧ h0 ts w a o xs b = none) := by
  by_cases h : b ∈ ts
  · exact .inl ⟨h, h0_tab h⟩
  · by_cases h2 : w = true ∧ b = a
    · exact .inr (.inl ⟨h, h2.1, h2.2, by obtain ⟨hw, rfl⟩ := h2; exact h0_at h hw⟩)
    · exact .inr (.inr ⟨h, h2, h0_none h h2⟩)
end
/-- what is known of the law's promise at the head's heap h -/
def LawG (l : PySem.W.OpenLaw) (w : World) (K : PySem.W.Frag) (k n : Nat) (x : Str) (mg : Str → Option Value) (fa : Addr) (h : Heap) : Prop :=
  ∃ (fd : FuncData) (cs : List (Addr × Addr)) (sp : Sp), (∀ p ∈ cs, h.get? p.2 = some { cls := .none, data := .fields #[] }) ∧ (∀ p ∈ cs, K.lookup p.2 = none) ∧ (∀ p ∈ cs, PySem.W.CodeHd h p.1 p.2) ∧ (∀ (s : Shared) (u : Value), BindsTo s fd ⟨[u], []⟩ [(x, u)]) ∧
    (∀ (H : Hp) (a : Addr) (ns : List Int), ns.length ≤ n → (∀ z ∈ ns, Builtin.Int.intBits z ≤ 1048576) → (∀ p ∈ cs, H p.2 = some (.tbl #[])) → SqL K H a (ns.map V.int) → sp [.ref a] H (fun v _ => v = .bl true) fun _ _ _ => False) ∧
    ∀ base : Heap, K.In base → base.Ns mainGlobals mg → (∀ p ∈ cs, TabB base mg p.1 p.2) → FnG l.prog w K mg base CX0 k fa fd [x] sp
section
variable {P : Program} {w : World} {K : PySem.W.Frag} {mg mb : Str → Option Value} {k : Nat} {fa a : Addr} {cs : List (Addr × Addr)} {fd : FuncData} {x : Str} {sp : Sp} {s₁ : Shared} {vs : List Value} {ns : List Int}
theorem law_callG (KX : K.In s₁.heap) (hns : s₁.heap.Ns mainGlobals mg) (hb : s₁.heap.Ns builtinsNs mb) (hbb : ∀ x : Str, x ≠ "__name__" → mb x = bootBuiltins x) (hlim : s₁.heap.NoLimit) (hg : s₁.gens = #[])
    (hT : ∀ p ∈ cs, s₁.heap.get? p.2 = some { cls := .none, data := .fields #[] }) (nT : ∀ p ∈ cs, K.lookup p.2 = none) (C : ∀ p ∈ cs, PySem.W.CodeHd s₁.heap p.1 p.2)
    (hbm : ∃ (bm : Addr) (ob : Obj), mg "__builtins__" = some (.ref bm) ∧ bm ≠ builtinsNs ∧ s₁.heap.get? bm = some ob ∧ ob.cls = .type "module" ∧ ob.dict = some builtinsNs ∧ ob.data = .plain)
    (ha : s₁.heap.get? a = some { cls := .type "list", data := .seq vs.toArray }) (hi : IntsAre vs ns) (hl : ns.length ≤ sizeLine) (hr : Room k callerA)
    (F : ∀ base : Heap, K.In base → base.Ns mainGlobals mg → (∀ p ∈ cs, TabB base mg p.1 p.2) → FnG P w K mg base CX0 k fa fd [x] sp) (hbind : ∀ (s : Shared) (u : Value), BindsTo s fd ⟨[u], []⟩ [(x, u)])
    (hsp : ∀ H : Hp, (∀ p ∈ cs, H p.2 = some (.tbl #[])) → SqL K H a (ns.map V.int) → sp [.ref a] H (fun v _ => v = .bl true) fun _ _ _ => False) :
    codeAny (model P w) callerA (.call (.ref fa) ⟨[.ref a], []⟩) (fun r s' => r = .ok (.ret (.bool true)) ∧ OldK s₁.heap s'.heap ∧ s'.os = s₁.os ∧ AllBare s'.gens) s₁ := by
  have rv := vals_ints hi
  have nlen := hi.length
  let ts := cs.map (·.2)
  have tabAt : ∀ b, b ∈ ts → s₁.heap.get? b = some { cls := .none, data := .fields #[] } ∧ K.lookup b = none := fun b hb => by
    obtain ⟨p, hp, rfl⟩ := List.mem_map.mp hb
    exact ⟨hT p hp, nT p hp⟩
  have inT : ∀ p ∈ cs, p.2 ∈ ts := fun p hp => List.mem_map.mpr ⟨p, hp, rfl⟩
  have aT : a ∉ ts := fun z => by
    have q := (tabAt a z).1
    rw [ha] at q
    exact absurd (congrArg Obj.data (Option.some.inj q)) (fun z => by cases z)
  let wr : Bool := (K.lookup a).isNone
  let H : Hp := h0 ts wr a { cls := .type "list", data := .seq vs.toArray } (ns.map V.int)
  -- the script is read
  have hS : SqL K H a (ns.map V.int) := by
    cases hk : K.lookup a with
    | none => exact .inl (.inr ⟨_, h0_at aT (by show (K.lookup a).isNone = true; rw [hk]; rfl)⟩)
    | some o =>
      have e := KX a o hk
      rw [ha] at e
      cases e
      exact .inr ⟨_, vs.toArray, _, hk, rfl, rfl, rfl, by rw [List.size_toArray, nlen]; exact hl, by simpa using rv⟩
  have hok : HOk P w H s₁.heap := fun b u e => by
    rcases h0_cases (ts := ts) (w := wr) (a := a) (o := { cls := .type "list", data := .seq vs.toArray }) (xs := ns.map V.int) b with ⟨h, q⟩ | ⟨_, _, rfl, q⟩ | ⟨_, _, q⟩
    · cases q.symm.trans e
      exact (tabAt b h).1
    · cases q.symm.trans e
      exact ⟨ha, by rw [List.length_map]; exact hl, vs, _, rv, ha⟩
    · cases q.symm.trans e
  -- an object that is neither a table nor the script is untracked
  have free : ∀ {b : Addr} {o : Obj}, s₁.heap.get? b = some o → o.data ≠ .fields #[] → (∀ us n, o.data ≠ .seq us n) → H b = none := fun {b o} e h1 h2 => by
    refine h0_none (fun z => ?_) (fun z => ?_)
    · rw [(tabAt b z).1] at e
      cases e
      exact h1 rfl
    · rw [z.2, ha] at e
      cases e
      exact h2 _ _ rfl
  have stay : ∀ {b : Addr} {o : Obj}, s₁.heap.get? b = some o → o.data ≠ .fields #[] → (∀ us n, o.data ≠ .seq us n) → (hidT s₁.heap H).get? b = some o := fun e h1 h2 => hidT_get e (free e h1 h2)
  have nsStay : ∀ {b : Addr} {m : Str → Option Value}, s₁.heap.Ns b m → (hidT s₁.heap H).Ns b m := fun {b m} ⟨o, es, ep, e, d, r⟩ => ⟨o, es, ep, stay e (fun z => by rw [d] at z; cases z) (fun _ _ z => by rw [d] at z; cases z), d, r⟩
  have KB : K.In (hidT s₁.heap H) := fun b o e => hidT_get (KX b o e) (by
    refine h0_none (fun z => ?_) (fun z => ?_)
    · rw [(tabAt b z).2] at e; cases e
    · have hw : (K.lookup a).isNone = true := z.1
      rw [z.2] at e
      rw [e] at hw; cases hw)
  have hM : L2.Mod K mg (hidT s₁.heap H) := by
    obtain ⟨mc, h1, h2⟩ := hlim
    exact ⟨KB, nsStay hns, ⟨mb, nsStay hb, hbb⟩, ⟨mc, nsStay h1, h2⟩⟩
  have TB : ∀ p ∈ cs, TabB (hidT s₁.heap H) mg p.1 p.2 := fun p hp => by
    have hTp := hT p hp
    refine ⟨?_, ?_, ?_⟩
    · obtain ⟨o, us, file, tf, flags, tg, inF, text, tt, e1, r1, r2, r3, r4, r5, r6, r7, r8, hne⟩ := C p hp
      exact ⟨o, us, file, tf, flags, tg, inF, text, tt, stay e1 (fun z => by rw [r2] at z; cases z; simp at r3) (fun _ _ z => by rw [r2] at z; cases z), r1, r2, r3, r4, r5, r6, r7, r8, hne⟩
    · obtain ⟨bm, ob, b1, b2, b3, b4, b5, b6⟩ := hbm
      refine ⟨bm, ob, b1, b2, fun q => ?_, fun q => ?_, stay b3 (fun z => by rw [b6] at z; cases z) (fun _ _ z => by rw [b6] at z; cases z), b4, b5, b6⟩
      · obtain ⟨o, es, ep, e, hd, _⟩ := hns
        rw [q, e] at b3
        cases b3
        rw [hd] at b6; cases b6
      · rw [q, hTp] at b3
        cases b3
        cases b6
    · intro z
      obtain ⟨o, es, ep, e, hd, _⟩ := hns
      rw [z, hTp] at e
      cases e
      cases hd
  have e0 : Env0 P w K mg (hidT s₁.heap H) callerA [] s₁ H := ⟨rfl, hM, fun b o e => of_hidT e, Nat.le_of_eq (hidT_size _ _), trivial, fun b z => absurd z (by simp [frs]), hok, .of_eq hg⟩
  refine codeAny_mono ((F _ KB (nsStay hns) TB).run callerA [] s₁ H ⟨[.ref a], []⟩ [.ref a] [.ref a] _ _ rfl hr e0 (hbind s₁ (.ref a)) (.cons rfl .nil) (hsp H (fun p hp => h0_tab (inT p hp)) hS)) fun r s' h => ?_
  cases r with
  | error e => exact (show False from h).elim
  | ok fl =>
    cases fl with
    | next => exact False.elim h
    | brk => exact False.elim h
    | cont => exact False.elim h
    | ret u =>
      obtain ⟨v, H', os, bare, un, hok', r', q⟩ := h
      obtain rfl : v = .bl true := q
      obtain rfl : u = Value.bool true := r'
      have kept : ∀ b o, b ∉ ts → s₁.heap.get? b = some o → s'.heap.get? b = some o := fun b o nb e => by
        rcases h0_cases (ts := ts) (w := wr) (a := a) (o := { cls := .type "list", data := .seq vs.toArray }) (xs := ns.map V.int) b with ⟨h, _⟩ | ⟨_, _, rfl, q⟩ | ⟨_, _, q⟩
        · exact absurd h nb
        · obtain ⟨e2, _⟩ := hok' b _ (un.frzs b _ _ q)
          rw [ha] at e
          rw [← e]; exact e2
        · exact un.keep b o e q (by simp [frs]) (by simp)
      have grown : ∀ p ∈ cs, ∃ more : Array Value, s'.heap.get? p.2 = some { cls := .none, data := .fields more } := fun p hp => by
        obtain ⟨more, z⟩ := un.tbls p.2 #[] (h0_tab (inT p hp))
        exact ⟨_, hok' p.2 _ z⟩
      refine ⟨rfl, ⟨fun b o e => ?_, fun b o e => ?_⟩, os, bare⟩
      · by_cases hbt : b ∈ ts
        · obtain ⟨p, hp, rfl⟩ := List.mem_map.mp hbt
          obtain ⟨more, hm⟩ := grown p hp
          rw [hT p hp] at e
          cases e
          exact .inr (.inl ⟨((C p hp).tab (hT p hp)).isCodeTable, rfl, #[], more, rfl, by rw [Array.empty_append]; exact hm⟩)
        · exact .inl (kept b o hbt e)
      · by_cases hbt : b ∈ ts
        · obtain ⟨p, hp, rfl⟩ := List.mem_map.mp hbt
          obtain ⟨more, hm⟩ := grown p hp
          exact ⟨_, hm⟩
        · exact ⟨o, kept b o hbt e⟩
end
theorem walk_ofG {l : PySem.W.OpenLaw} {n k : Nat} {q : Program} {loose : List Str} {XP : (Str → Option Value) → Heap → Prop} {YP : World → Heap → Prop} {d : DefRec} {x : Str}
    (hn : l.most = some n) (hn2 : n ≤ sizeLine) (hdf : d.params.defaults = []) (hr : Room k callerA)
    (F : ∀ (w : World) (mg : Str → Option Value) (fa : Addr) (h : Heap), YP w h → h.Ns mainGlobals mg → mg d.name = some (.ref fa) → ∃ K : PySem.W.Frag, K.In h ∧ LawG l w K k n x mg fa h) :
    PySem.W.WalkO q loose XP YP l.row.toRowW d [] (fun f vs => PySem.call f vs) := by
  refine Att.attach_callB hn hdf fun w s₀ s₁ mg mb fa o pm cd doc a vs ns G Y ho hd hcd hmg hobj hints hlen hbits hg => ?_
  obtain ⟨K, KX, fd, cs, sp, hT, nT, C, hb, hsp, hF⟩ := F w mg fa _ Y G.T.g hmg
  exact law_callG KX G.T.g G.T.b G.T.builtins G.T.nolimit hg hT nT C G.T.bmain hobj hints (Nat.le_trans hlen hn2) hr hF hb (fun H hH hS => hsp H a ns hlen hbits hH hS)
end Gd

namespace M60
open PySem PySem.Spec PyProof.Rows L2 SX Own Gd
open C8 (Cal pe_c pe_gc pe_mk Mak pss_cut)
open M12
/-! ### steps of the law's world -/
theorem Kpt.tab {T : List (Addr × Str)} {h q : Addr} {H H' : Hp} (t : LamX.Tabs T H) (a : HpAt H h q) (k : Kpt h q H H') : LamX.Tabs T H' := fun p hp => by
  obtain ⟨ps, h1, h2, h3⟩ := t p hp
  obtain ⟨cs, st, a⟩ := a
  refine ⟨ps, k _ _ h1 (Own.ne_of h1 a.hh (by intro z; cases z)) (Own.ne_of h1 a.hq (by intro z; cases z)), h2, fun pos cv hc => ?_⟩
  obtain ⟨c, e1, e2⟩ := h3 pos cv hc
  exact ⟨c, e1, k _ _ e2 (Own.ne_of e2 a.hh codeO_lst) (Own.ne_of e2 a.hq codeO_lst)⟩
def KpN (h q : Addr) (H H' : Hp) : Prop := ∀ b o, H b = some o → b ≠ h → b ≠ q → (∀ ps, o ≠ .tbl ps) → H' b = some o
theorem KpN.of {h q : Addr} {H H' : Hp} (k : Kpt h q H H') : KpN h q H H' := fun b o e n1 n2 _ => k b o e n1 n2
structure Stp (T0 : List (Addr × Str)) (h q : Addr) (H H' : Hp) : Prop where
  a : HpAt H' h q
  t : LamX.Tabs T0 H'
  k : KpN h q H H'
  tk : TK H H'
theorem Stp.refl {T0 : List (Addr × Str)} {h q : Addr} {H : Hp} (a : HpAt H h q) (t : LamX.Tabs T0 H) : Stp T0 h q H H := ⟨a, t, fun _ _ e _ _ _ => e, TK.refl _⟩
theorem Stp.trans {T0 : List (Addr × Str)} {h q : Addr} {H H1 H2 : Hp} (x : Stp T0 h q H H1) (y : Stp T0 h q H1 H2) : Stp T0 h q H H2 :=
  ⟨y.a, y.t, fun c o e n1 n2 n3 => y.k c o (x.k c o e n1 n2 n3) n1 n2 n3, x.tk.trans y.tk⟩
theorem Stp.same {T0 : List (Addr × Str)} {h q : Addr} {H H1 H2 : Hp} (x : Stp T0 h q H H1) (s : Same H1 H2) : Stp T0 h q H H2 :=
  ⟨x.a.same s, fun p hp => (x.t p hp).ext s, fun c o e n1 n2 n3 => s _ _ (x.k c o e n1 n2 n3), x.tk.trans (TK.of s)⟩
theorem Stp.kp {T0 : List (Addr × Str)} {h q : Addr} {H H1 H2 : Hp} (x : Stp T0 h q H H1) (a : HpAt H2 h q) (s : Kpt h q H1 H2) : Stp T0 h q H H2 :=
  ⟨a, Kpt.tab x.t x.a s, fun c o e n1 n2 n3 => s _ _ (x.k c o e n1 n2 n3) n1 n2, x.tk.trans (TK.kp s x.a)⟩
theorem Stp.ext {T0 : List (Addr × Str)} {h q : Addr} {H H1 H2 : Hp} (x : Stp T0 h q H H1) (e : LamX.ExtN H1 H2) (t : LamX.Tabs T0 H2) : Stp T0 h q H H2 := by
  refine ⟨?_, t, fun c o z n1 n2 n3 => e _ _ (x.k c o z n1 n2 n3) n3, x.tk.trans (TK.ext e)⟩
  obtain ⟨cs, st, a⟩ := x.a
  exact ⟨cs, st, a.ne, e _ _ a.hh (fun ps z => by cases z), e _ _ a.hq (fun ps z => by cases z), a.nn, a.ln, a.s0, a.s1⟩
theorem Stp.xt {T0 : List (Addr × Str)} {h q : Addr} {H H1 H2 : Hp} (x : Stp T0 h q H H1) (e : Xt T0 H1 H2) : Stp T0 h q H H2 := x.ext e.e e.t
theorem Stp.new {T0 : List (Addr × Str)} {h q p : Addr} {o : HO} {H H1 : Hp} (x : Stp T0 h q H H1) (n : H1 p = none) : Stp T0 h q H (upd H1 p o) := x.same (same_upd n)
theorem TaskV.kpn {C h q : Addr} {H H' : Hp} {v : V} {ul : List Unk} {wl : List Wish} {goal : List Int} (t : TaskV C H v ul wl goal) (a : HpAt H h q) (k : KpN h q H H') : TaskV C H' v ul wl goal := by
  obtain ⟨cs, st, a⟩ := a
  have tk : TK H H' := fun b xs e => k _ _ e (fun z => by rw [z, a.hh] at e; cases e) (fun z => by rw [z, a.hq] at e; cases e) (fun ps z => by cases z)
  obtain ⟨x, dx, pu, pw, pg, us, ws, e, hx, hpu, uv, hpw, wv, hpg⟩ := t
  exact ⟨x, dx, pu, pw, pg, us, ws, e, k _ _ hx (fun z => by rw [z, a.hh] at hx; cases hx) (fun z => by rw [z, a.hq] at hx; cases hx) (fun ps z => by cases z), tk _ _ hpu, uv.tk tk, tk _ _ hpw, wv.mono fun _ _ g => g.tk tk, tk _ _ hpg⟩
theorem TwB.kpn {C h q : Addr} {H H' : Hp} {v b : V} {k n : Nat} {x : Wish} {bx : Bx} (t : TwB C H v b k n x bx) (a : HpAt H h q) (kp : KpN h q H H') (tk : TK H H') : TwB C H' v b k n x bx := t.tk (fun _ _ _ z => z.kpn a kp) tk
theorem TwB.stp {C h q : Addr} {T0 : List (Addr × Str)} {H1 H2 : Hp} {v b : V} {k n : Nat} {x : Wish} {bx : Bx} (t : TwB C H1 v b k n x bx) (a : HpAt H1 h q) (s : Stp T0 h q H1 H2) : TwB C H2 v b k n x bx := t.kpn a s.k s.tk
/-! ### names -/
theorem UVs.app {H : Hp} {v : V} {u : Unk} : ∀ {vs : List V} {as : List Unk}, UVs H vs as → UV H v u → UVs H (vs ++ [v]) (as ++ [u])
  | _, _, .nil, h => .cons h .nil
  | _, _, .cons g t, h => .cons g (t.app h)
theorem op_mulA {X : Cx} : OpR X (binaryOp .Mult) (fun x y H Q => ∃ (z : Str) (n : Nat), x = .str z ∧ y = .int (n : Int) ∧ z.length ≤ 4 ∧ n ≤ 1000 ∧ Q (.str (Txt.mul z (n : Int))) H) := by
  intro pins s σ H x y v u Q I rx ry h
  obtain ⟨z, n, rfl, rfl, hl, hn, q⟩ := h
  obtain ⟨t, rfl⟩ := rx
  obtain ⟨t', rfl⟩ := ry
  exact SB.mul (mulOk_of 4 1000 hl (by omega) (by omega) (by decide) (by decide)) fun t2 tk => ⟨.str _, H, I.tok _, ⟨_, rfl⟩, q⟩
def letterC (i : Nat) : Nat := ([98, 100, 102, 104, 106, 108, 110, 112, 114, 116, 118, 120, 122] : List Nat).getD i 0
def nmOf (i d : Nat) : Str := (⟨#[letterC i]⟩ : Str) ++ Txt.mul "a" (d : Int)
def nmB (s : Str) : Bool := decide (1 ≤ s.length) && (decide (s.length ≤ 6) && (s.cps.toList.all (fun c => ("abcdefghijklmnopqrstuvwxyz" : Str).cps.toList.contains c) && !inV (.str s) (wordsL.map V.str)))
theorem nm_of {s : Str} (h : nmB s = true) : NmOk s := by
  unfold nmB at h
  rw [Bool.and_eq_true, Bool.and_eq_true, Bool.and_eq_true] at h
  obtain ⟨h1, h2, h3, h4⟩ := h
  refine ⟨of_decide_eq_true h1, of_decide_eq_true h2, fun c hc => ?_, ?_⟩
  · have := List.all_eq_true.mp h3 c hc
    exact List.contains_iff_mem.mp this
  · simpa using h4
theorem nm_all : ∀ i : Fin 6, ∀ d : Fin 3, nmB (nmOf i d) = true := by decide +kernel
theorem nm_ok {i d : Nat} (hi : i < 6) (hd : d < 3) : NmOk (nmOf i d) := nm_of (nm_all ⟨i, hi⟩ ⟨d, hd⟩)
theorem nm_lt_all : ∀ i : Fin 5, ∀ d e : Fin 3, (nmOf i d).cps.toList < (nmOf (i + 1) e).cps.toList := by decide +kernel
theorem nm_lt {i d e : Nat} (hi : i < 5) (hd : d < 3) (he : e < 3) : (nmOf i d).cps.toList < (nmOf (i + 1) e).cps.toList := nm_lt_all ⟨i, hi⟩ ⟨d, hd⟩ ⟨e, he⟩
theorem nm_len_all : ∀ d : Fin 3, (Txt.mul "a" (d : Nat)).length ≤ 2 := by decide +kernel
theorem nm_len {d : Nat} (h : d < 3) : (Txt.mul "a" (d : Int)).length ≤ 2 := nm_len_all ⟨d, h⟩
theorem at_letter : ∀ i : Fin 6, ("bdfhjlnprtvxz" : Str).cps.toList[i.val]? = some (letterC i) := by decide +kernel
def Ul (ul : List Unk) : Prop := ∀ i u, ul[i]? = some u → ∃ d : Nat, d < 3 ∧ u.1 = nmOf i d ∧ u.2.1 ≤ u.2.2
theorem Ul.nil : Ul [] := fun i u h => by simp at h
theorem Ul.app {ul : List Unk} {d : Nat} {lo hi : Int} (h : Ul ul) (hd : d < 3) (le : lo ≤ hi) : Ul (ul ++ [(nmOf ul.length d, lo, hi)]) := fun i u e => by
  by_cases c : i < ul.length
  · rw [List.getElem?_append_left c] at e; exact h i u e
  · rw [List.getElem?_append_right (by omega)] at e
    by_cases z : i - ul.length = 0
    · rw [z] at e
      cases e
      have : i = ul.length := by omega
      subst this
      exact ⟨d, hd, rfl, le⟩
    · obtain ⟨k, hk⟩ : ∃ k, i - ul.length = k + 1 := ⟨i - ul.length - 1, by omega⟩
      rw [hk] at e; simp at e
theorem Ul.ok {ul : List Unk} (h : Ul ul) (l1 : 1 ≤ ul.length) (l6 : ul.length ≤ 6) : UnkOk ul := by
  refine ⟨l1, by omega, fun u hu => ?_, fun u hu => ?_, fun i u v hu hv => ?_⟩
  · obtain ⟨i, hi, e⟩ := List.getElem_of_mem hu
    obtain ⟨d, hd, e1, _⟩ := h i u (by rw [List.getElem?_eq_getElem hi, e])
    rw [e1]; exact nm_ok (by omega) hd
  · obtain ⟨i, hi, e⟩ := List.getElem_of_mem hu
    obtain ⟨d, hd, _, e2⟩ := h i u (by rw [List.getElem?_eq_getElem hi, e])
    exact e2
  · obtain ⟨d, hd, e1, _⟩ := h i u hu
    obtain ⟨d', hd', e1', _⟩ := h (i + 1) v hv
    rw [e1, e1']
    exact nm_lt (by have := (List.getElem?_eq_some_iff.mp hv).1; omega) hd hd'
theorem int_of {v : V} {ns : List Int} (h : v ∈ ns.map V.int) : ∃ z ∈ ns, v = .int z := by
  obtain ⟨z, hz, rfl⟩ := List.mem_map.mp h
  exact ⟨z, hz, rfl⟩
/-! ### places but one -/
theorem len_but {n : Nat} (g : Int) : n ≤ ((List.range n).filter (fun i : Nat => decide ((i : Int) ≠ g))).length + 1 := by
  induction n with
  | zero => exact Nat.zero_le _
  | succ n ih =>
    rw [List.range_succ, List.filter_append, List.length_append]
    by_cases c : (n : Int) ≠ g
    · rw [List.filter_cons_of_pos (by simpa using c)]
      show n + 1 ≤ _ + 1 + 1
      omega
    · have e : ((List.range n).filter (fun i : Nat => decide ((i : Int) ≠ g))) = List.range n := by
        refine List.filter_eq_self.mpr fun i hi => ?_
        have := List.mem_range.mp hi
        exact decide_eq_true (by omega)
      rw [e, List.length_range]; omega
theorem len_none {n : Nat} {g : Int} (h : g < 0) : ((List.range n).filter (fun i : Nat => decide ((i : Int) ≠ g))).length = n := by
  rw [List.filter_eq_self.mpr fun i hi => decide_eq_true (by omega), List.length_range]
theorem len_all {n : Nat} (f : Nat → Bool) : ((List.range n).filter f).length ≤ n := by
  have := List.length_filter_le f (List.range n)
  rw [List.length_range] at this; exact this
theorem len_one {n : Nat} {g : Int} (h0 : 0 ≤ g) (h1 : g < n) : ((List.range n).filter (fun i : Nat => decide ((i : Int) ≠ g))).length + 1 = n := by
  have a := len_but (n := n) g
  have b : ((List.range n).filter (fun i : Nat => decide ((i : Int) ≠ g))).length ≠ n := fun e => by
    have e2 : ((List.range n).filter (fun i : Nat => decide ((i : Int) ≠ g))).length = (List.range n).length := by rw [e, List.length_range]
    have e3 := List.length_filter_eq_length_iff.mp e2 g.toNat (List.mem_range.mpr (by omega))
    have := of_decide_eq_true e3
    omega
  have c := len_all (n := n) (fun i : Nat => decide ((i : Int) ≠ g))
  omega
theorem rep0 (n : Nat) : (List.replicate n [V.int 0]).flatten = (List.replicate n (0 : Int)).map V.int := by
  induction n with
  | zero => rfl
  | succ n ih => rw [List.replicate_succ, List.flatten_cons, ih, List.replicate_succ]; rfl
theorem inc01 : Inc [0, 1] := fun i x y hx hy => by
  cases i with
  | zero =>
    cases hx
    cases hy
    decide
  | succ i => simp at hy
/-! ### what the law draws -/
structure LoopA (H H' : Hp) (h q l1 l2 : Addr) (us bs : List V) (ul : List Unk) (box : Bx) (i j : Nat) : Prop where
  a : HpAt H' h q
  kp : Kpt h q H H'
  e1 : H' l1 = some (.lst us)
  e2 : H' l2 = some (.lst bs)
  uv : UVs H' us ul
  lv : All2 (P2 H') bs box
  u : Ul ul
  two : ∀ r ∈ box, r.1 ≤ r.2 ∧ -5 ≤ r.1 ∧ r.2 ≤ 15
  lu : ul.length = i
  lb : box.length = j
theorem LoopA.to {H H1 H2 : Hp} {h q l1 l2 : Addr} {us bs : List V} {ul : List Unk} {box : Bx} {i j : Nat} (g : LoopA H H1 h q l1 l2 us bs ul box i j) (k : Kpt h q H1 H2) (a : HpAt H2 h q) (n1 : l1 ≠ h ∧ l1 ≠ q) (n2 : l2 ≠ h ∧ l2 ≠ q) : LoopA H H2 h q l1 l2 us bs ul box i j :=
  have tk := TK.kp k g.a
  ⟨a, g.kp.trans k, k _ _ g.e1 n1.1 n1.2, k _ _ g.e2 n2.1 n2.2, g.uv.tk tk, p2Tk tk g.lv, g.u, g.two, g.lu, g.lb⟩
theorem LoopA.app1 {H H1 : Hp} {h q l1 l2 t : Addr} {us bs : List V} {ul : List Unk} {box : Bx} {i j e : Nat} {lo hi : Int} (g : LoopA H H1 h q l1 l2 us bs ul box i j) (et : H1 t = some (.tup [.str (nmOf i e), .int lo, .int hi])) (he : e < 3) (le : lo ≤ hi) (n0 : H l1 = none) (n1 : l1 ≠ h ∧ l1 ≠ q) (ne : l1 ≠ l2) :
    LoopA H (upd H1 l1 (.lst (us ++ [.ref t]))) h q l1 l2 (us ++ [.ref t]) bs (ul ++ [(nmOf i e, lo, hi)]) box (i + 1) j := by
  have tk : TK H1 (upd H1 l1 (.lst (us ++ [.ref t]))) := TK.put g.e1
  refine ⟨g.a.upd n1.1 n1.2, g.kp.at_new n0, upd_same, by rw [upd_ne ne.symm]; exact g.e2, (g.uv.tk tk).app ⟨t, rfl, tk _ _ et⟩, p2Tk tk g.lv, ?_, g.two, by rw [List.length_append, g.lu]; rfl, g.lb⟩
  have := g.u.app he le
  rw [g.lu] at this
  exact this
theorem LoopA.app2 {H H1 : Hp} {h q l1 l2 t : Addr} {us bs : List V} {ul : List Unk} {box : Bx} {i j : Nat} {lo hi : Int} (g : LoopA H H1 h q l1 l2 us bs ul box i j) (et : H1 t = some (.tup [.int lo, .int hi])) (n0 : H l2 = none) (n1 : l2 ≠ h ∧ l2 ≠ q) (ne : l1 ≠ l2) (b : lo ≤ hi ∧ -5 ≤ lo ∧ hi ≤ 15) :
    LoopA H (upd H1 l2 (.lst (bs ++ [.ref t]))) h q l1 l2 us (bs ++ [.ref t]) ul (box ++ [(lo, hi)]) i (j + 1) := by
  have tk : TK H1 (upd H1 l2 (.lst (bs ++ [.ref t]))) := TK.put g.e2
  refine ⟨g.a.upd n1.1 n1.2, g.kp.at_new n0, by rw [upd_ne ne]; exact g.e1, upd_same, g.uv.tk tk, (p2Tk tk g.lv).app ⟨t, rfl, tk _ _ et⟩, g.u, fun r hr => ?_, g.lu, by rw [List.length_append, g.lb]; rfl⟩
  rcases List.mem_append.mp hr with z | z
  · exact g.two r z
  · rw [List.mem_singleton.mp z]; exact b
def KV (r : Bool) (H : Hp) (v : V) (j : Jb) : Prop := match r with
  | true => JV H v j
  | false => BV H v j ∧ j.2.2 = 1
theorem KV.tk {r : Bool} {H H' : Hp} {v : V} {j : Jb} (h : KV r H v j) (s : TK H H') : KV r H' v j := by
  cases r with
  | true => exact T3.tk h s
  | false => exact ⟨P2.tk h.1 s, h.2⟩
theorem kvTk {r : Bool} {H H' : Hp} (s : TK H H') {us : List V} {js : List Jb} (h : All2 (KV r H) us js) : All2 (KV r H') us js := h.mono fun _ _ g => g.tk s
def kdS (r : Bool) : Str := match r with
  | true => "room"
  | false => "bench"
def mkW (r : Bool) (js : List Jb) (z : Int) : Wish := match r with
  | true => .room js z
  | false => .bench js
structure Jbs (n : Nat) (z : Int) (js : List Jb) : Prop where
  ok : JsOk n z js
  two : 2 ≤ js.length
  six : js.length ≤ 6
  ln : ∀ j ∈ js, j.2.1 ≤ 10
theorem Jbs.wj {n : Nat} {z : Int} {js : List Jb} (h : Jbs n z js) (z4 : z ≤ 4) : WJ n z js :=
  ⟨h.ok, h.two, by have := h.six; omega, fun j hj => by have := h.ln j hj; omega, by omega⟩
theorem mkW_ok {n : Nat} {z : Int} {js : List Jb} {r : Bool} (h : Jbs n z js) (z4 : z ≤ 4) (e : r = false → z = 1) : WishOk n (mkW r js z) := by
  cases r with
  | true => exact h.wj z4
  | false =>
    have e := e rfl
    subst e
    exact h.wj (by decide)
theorem mkW_size {r : Bool} {js : List Jb} {z : Int} (z4 : z ≤ 4) : (mkW r js z).size ≤ 4 := by cases r with | true => exact z4 | false => show (1 : Int) ≤ 4; decide
theorem mkW_j (r : Bool) (js : List Jb) (z : Int) : (mkW r js z).isJ = true ∧ (mkW r js z).jobs = js := by cases r <;> exact ⟨rfl, rfl⟩
/-- a task, its wish at k -/
structure TkF (C : Addr) (H : Hp) (tv : V) (k n : Nat) (x : Wish) (ul : List Unk) (wl : List Wish) (goal : List Int) : Prop where
  tv : TaskV C H tv ul wl goal
  hk : wl[k]? = some x
  en : n = ul.length
  uo : UnkOk ul
  wo : ∀ z ∈ wl, WishOk n z
  lg : goal.length = n
  j : x.isJ = true
theorem TkF.ok {C : Addr} {H : Hp} {tv : V} {k n : Nat} {x : Wish} {ul : List Unk} {wl : List Wish} {goal : List Int} (t : TkF C H tv k n x ul wl goal) : WishOk n x := t.wo x (List.mem_of_getElem? t.hk)
theorem TkF.tw {C : Addr} {H : Hp} {tv bv : V} {k n : Nat} {x : Wish} {ul : List Unk} {wl : List Wish} {goal : List Int} {bx : Bx} (t : TkF C H tv k n x ul wl goal) (bv_ : BxV H bv bx) (bl : bx.length = n) : TwB C H tv bv k n x bx :=
  ⟨⟨ul, wl, goal, t.tv, t.hk, t.en⟩, t.ok, t.j, bv_, bl⟩
theorem TkF.ext {C : Addr} {H H' : Hp} {tv : V} {k n : Nat} {x : Wish} {ul : List Unk} {wl : List Wish} {goal : List Int} (t : TkF C H tv k n x ul wl goal) (e : LamX.ExtN H H') : TkF C H' tv k n x ul wl goal := ⟨t.tv.ext e, t.hk, t.en, t.uo, t.wo, t.lg, t.j⟩
theorem TkF.same {C : Addr} {H H' : Hp} {tv : V} {k n : Nat} {x : Wish} {ul : List Unk} {wl : List Wish} {goal : List Int} (t : TkF C H tv k n x ul wl goal) (e : Same H H') : TkF C H' tv k n x ul wl goal := t.ext (ext_of e)
theorem TkF.stp {C h q : Addr} {T0 : List (Addr × Str)} {H H' : Hp} {tv : V} {k n : Nat} {x : Wish} {ul : List Unk} {wl : List Wish} {goal : List Int} (t : TkF C H tv k n x ul wl goal) (a : HpAt H h q) (s : Stp T0 h q H H') : TkF C H' tv k n x ul wl goal := ⟨t.tv.kpn a s.k, t.hk, t.en, t.uo, t.wo, t.lg, t.j⟩
/-- a task made, its wish and a box -/
structure Made (C : Addr) (H : Hp) (tv bv : V) (k n : Nat) (x : Wish) (bx : Bx) (ul : List Unk) (wl : List Wish) (goal : List Int) : Prop where
  tk : TkF C H tv k n x ul wl goal
  bv : BxV H bv bx
  bl : bx.length = n
  bo : BxOk bx
  bd : ∀ r ∈ bx, -5 ≤ r.1 ∧ r.2 ≤ 15
  n6 : n ≤ 6
  j6 : x.jobs.length ≤ 6
  jl : ∀ j ∈ x.jobs, j.2.1 ≤ 10
  z4 : x.size ≤ 4
  k2 : wl.length ≤ 2
theorem Made.tw {C : Addr} {H : Hp} {tv bv : V} {k n : Nat} {x : Wish} {bx : Bx} {ul : List Unk} {wl : List Wish} {goal : List Int} (m : Made C H tv bv k n x bx ul wl goal) : TwB C H tv bv k n x bx := m.tk.tw m.bv m.bl
theorem Made.stp {C h q : Addr} {T0 : List (Addr × Str)} {H H' : Hp} {tv bv : V} {k n : Nat} {x : Wish} {bx : Bx} {ul : List Unk} {wl : List Wish} {goal : List Int} (m : Made C H tv bv k n x bx ul wl goal) (a : HpAt H h q) (s : Stp T0 h q H H') : Made C H' tv bv k n x bx ul wl goal := ⟨m.tk.stp a s, m.bv.tk s.tk, m.bl, m.bo, m.bd, m.n6, m.j6, m.jl, m.z4, m.k2⟩
theorem sum_small : ∀ {b : Bx}, (∀ r ∈ b, -5 ≤ r.1 ∧ r.2 ≤ 15) → sumB b ≤ 20 * (b.length : Int)
  | [], _ => by simp [sumB]
  | x :: b, h => by
    have h1 := h x (List.mem_cons_self ..)
    have h2 := sum_small (b := b) fun y hy => h y (List.mem_cons_of_mem _ hy)
    simp only [sumB, List.length_cons]; omega
end M60

namespace M60
open PySem PySem.Spec PyProof.Rows L2 SX Own Gd
open C8 (Cal pe_c pe_gc pe_mk Mak pss_cut)
open M12
section
variable {P : Program} {w : World} {K : PySem.W.Frag} {mg : Str → Option Value} {base : Heap} {aW aT : Addr} {es : Array DictEntry} {nn : Nat}
abbrev s_Ltask : Stmt := topS 102
abbrev n_Ltask : List Str := ["heap", "kind", "many", "size", "spare", "letters", "unknowns", "box", "at", "low", "high", "first", "gone", "places", "jobs", "place", "length", "wish", "alike", "k", "other", "wishes"]
theorem sc_Ltask : FnScope n_Ltask ["heap", "kind"] (defScope s_Ltask) := ⟨rfl, rfl, rfl, by decide +kernel, rfl, by decide +kernel, by decide +kernel⟩
def spLTask (C : Addr) : Sp := fun vs H Q _ => ∃ (h q : Addr) (r : Bool), vs = [.ref h, .str (kdS r)] ∧ HpAt H h q ∧ ∀ p tv bv k n x bx ul wl goal H', H' p = some (.tup [tv, .int (k : Int), bv]) → Made C H' tv bv k n x bx ul wl goal → x.isR = r → HpAt H' h q → Kpt h q H H' → Q (.ref p) H'
theorem ok_Ltask {f C : Addr} {fd : FuncData} (F : Fun K "_law_task" "_law_task" s_Ltask f fd) (T : Txt K mg w aW aT es nn) (c_Ldraw : Cal P w K mg base 1 "_law_draw" spDraw []) (c_Lpick : Cal P w K mg base 2 "_law_pick" spPickL []) (m_Task : Mak P w K mg base 8 "Task" C (spTask C) []) : FnOk P w K mg base CX0 10 f fd ["heap", "kind"] (spLTask C) := by
  refine F.ok sc_Ltask (fun vs H Q E h => ?_) (fun cdv A outer s0 H vs Q E hr h => ?_)
  · obtain ⟨h, q, r, rfl, _⟩ := h
    rfl
  · obtain ⟨h, q, r, rfl, a0, fin⟩ := h
    refine ⟨_, (pss_cons (ps_set (i := 2) sc_Ltask.nd rfl (.inl rfl) (pe_c c_Lpick hr (by decide) (by rfl) (pa_cons (pv 0) (pa_cons (pe_lst (pa_cons pe_int (pa_cons pe_int (pa_cons pe_int (pa_cons pe_int (pa_cons pe_int (pa_cons pe_int pa_nil))))))) pa_nil))))
      (pss_cut (ps_par (i := 3) (j := 4) (by rfl) sc_Ltask.nd rfl rfl (by decide) rfl rfl (pa_cons (pe_ifExp (pt_cmpR op_eq (pv 1) pe_str (nomark _)) pe_int (pe_op op_add pe_int (pe_c c_Ldraw hr (by decide) (by rfl) (pa_cons (pv 0) (pa_cons pe_int pa_nil))))) (pa_cons (pe_c c_Ldraw hr (by decide) (by rfl) (pa_cons (pv 0) (pa_cons pe_int pa_nil))) pa_nil)) (by rfl))
      (pss_cons (ps_par3 (i := 5) (j := 6) (l := 7) (by rfl) sc_Ltask.nd rfl rfl rfl (by decide) (by decide) (by decide) rfl rfl rfl (pa_cons pe_str (pa_cons (pe_lst pa_nil) (pa_cons (pe_lst pa_nil) pa_nil))) (by rfl))
      (pss_cut (ps_for PassesOwn.never rfl (pi_range1 (by rfl) T.b_range (pa_cons (pe_op op_add (pv 2) (pv 4)) pa_nil)) (pg_name (i := 8) sc_Ltask.nd rfl (.inl rfl)) (pss_cons (ps_set (i := 9) sc_Ltask.nd rfl (.inl rfl) (pe_op op_sub (pe_c c_Ldraw hr (by decide) (by rfl) (pa_cons (pv 0) (pa_cons pe_int pa_nil))) pe_int))
        (pss_cons (ps_set (i := 10) sc_Ltask.nd rfl (.inl rfl) (pe_op op_add (pv 9) (pe_c c_Lpick hr (by decide) (by rfl) (pa_cons (pv 0) (pa_cons (pe_lst (pa_cons pe_int (pa_cons pe_int (pa_cons pe_int (pa_cons pe_int (pa_cons pe_int (pa_cons pe_int pa_nil))))))) pa_nil)))))
        (pss_cons (ps_expr (pe_bm PySem.F.plainAttrs_list PySem.F.slot_list_append PySem.F.type_list_append mt_append (pv 6) (pa_cons (pe_tup (pa_cons (pe_op op_add_str (pe_ix ix_str (pv 5) (pv 8) (fun _ _ => rfl)) (pe_op op_mulA pe_str (pe_c c_Ldraw hr (by decide) (by rfl) (pa_cons (pv 0) (pa_cons pe_int pa_nil))))) (pa_cons (pv 9) (pa_cons (pv 10) pa_nil)))) pa_nil)))
        (pss_cons (ps_set (i := 11) sc_Ltask.nd rfl (.inl rfl) (pe_op op_add (pv 9) (pe_c c_Ldraw hr (by decide) (by rfl) (pa_cons (pv 0) (pa_cons (pe_callB (call_min2 rfl) (by rfl) T.b_min (by decide +kernel) (pa_cons pe_int (pa_cons (pe_op op_add (pe_op op_sub (pv 10) (pv 9)) pe_int) pa_nil))) pa_nil)))))
        (pss_one (ps_expr (pe_bm PySem.F.plainAttrs_list PySem.F.slot_list_append PySem.F.type_list_append mt_append (pv 7) (pa_cons (pe_tup (pa_cons (pv 11) (pa_cons (pe_op op_sub (pv 10) (pe_c c_Ldraw hr (by decide) (by rfl) (pa_cons (pv 0) (pa_cons (pe_callB (call_min2 rfl) (by rfl) T.b_min (by decide +kernel) (pa_cons pe_int (pa_cons (pe_op op_add (pe_op op_sub (pv 10) (pv 11)) pe_int) pa_nil))) pa_nil)))) pa_nil))) pa_nil)))))))))
      (pss_cut (ps_set (i := 12) sc_Ltask.nd rfl (.inr rfl) (pe_ifExp (pt_cmpR op_gt (pv 4) pe_int (nomark _)) (pe_c c_Ldraw hr (by decide) (by rfl) (pa_cons (pv 0) (pa_cons (pe_op op_add (pv 2) (pv 4)) pa_nil))) (pe_op op_sub pe_int pe_int)))
      (pss_cons (ps_par (i := 13) (j := 14) (by rfl) sc_Ltask.nd rfl rfl (by decide) rfl rfl (pa_cons (pe_lc (own := [("at", 8)]) rfl sc_Ltask.nd (pi_range1 (by rfl) T.b_range (pa_cons (pe_op op_add (pv 2) (pv 4)) pa_nil)) (blkOk_by (N := n_Ltask) (sc := defScope s_Ltask) (by decide +kernel)) (fun _ _ _ _ _ => (pg_name (i := 8) sc_Ltask.nd rfl (.inl rfl))) (fun _ _ _ _ _ => (pts_one (pt_cmpR op_ne (pv 8) (pv 12) (nomark _)))) (fun _ _ _ _ _ => (pv 8))) (pa_cons (pe_lst pa_nil) pa_nil)) (by rfl))
      (pss_cut (ps_for PassesOwn.never rfl (pi_list (pv 13)) (pg_name (i := 15) sc_Ltask.nd rfl (.inl rfl)) (pss_cons (ps_set (i := 16) sc_Ltask.nd rfl (.inl rfl) (pe_op op_add pe_int (pe_c c_Lpick hr (by decide) (by rfl) (pa_cons (pv 0) (pa_cons (pe_lst (pa_cons pe_int (pa_cons pe_int (pa_cons pe_int (pa_cons pe_int (pa_cons pe_int (pa_cons pe_int pa_nil))))))) pa_nil)))))
        (pss_one (ps_expr (pe_bm PySem.F.plainAttrs_list PySem.F.slot_list_append PySem.F.type_list_append mt_append (pv 14) (pa_cons (pe_ifExp (pt_cmpR op_eq (pv 1) pe_str (nomark _)) (pe_tup (pa_cons (pv 15) (pa_cons (pv 16) pa_nil))) (pe_tup (pa_cons (pv 15) (pa_cons (pv 16) (pa_cons (pe_op op_add pe_int (pe_c c_Ldraw hr (by decide) (by rfl) (pa_cons (pv 0) (pa_cons (pv 3) pa_nil)))) pa_nil))))) pa_nil))))))
      (pss_cut (ps_set (i := 17) sc_Ltask.nd rfl (.inl rfl) (pe_ifExp (pt_cmpR op_eq (pv 1) pe_str (nomark _)) (pe_tup (pa_cons (pv 1) (pa_cons (pe_callTy call_tuple_of (by rfl) T.b_tuple (by decide +kernel) (pa_cons (pv 14) pa_nil)) pa_nil))) (pe_tup (pa_cons (pv 1) (pa_cons (pe_callTy call_tuple_of (by rfl) T.b_tuple (by decide +kernel) (pa_cons (pv 14) pa_nil)) (pa_cons (pv 3) pa_nil))))))
      (pss_cut (ps_set (i := 18) sc_Ltask.nd rfl (.inl rfl) (pe_ifExp (pt_cmpR op_eq (pv 1) pe_str (nomark _)) (pe_tup (pa_cons pe_str (pa_cons (pe_tup (pa_cons (pe_tup (pa_cons pe_int (pa_cons pe_int pa_nil))) (pa_cons (pe_tup (pa_cons pe_int (pa_cons pe_int pa_nil))) pa_nil))) pa_nil))) (pe_tup (pa_cons pe_str (pa_cons (pe_tup (pa_cons (pe_tup (pa_cons pe_int (pa_cons pe_int (pa_cons pe_int pa_nil)))) (pa_cons (pe_tup (pa_cons pe_int (pa_cons pe_int (pa_cons pe_int pa_nil)))) pa_nil))) (pa_cons pe_int pa_nil))))))
      (pss_cons (ps_par (i := 19) (j := 20) (by rfl) sc_Ltask.nd rfl rfl (by decide) rfl rfl (pa_cons (pe_c c_Ldraw hr (by decide) (by rfl) (pa_cons (pv 0) (pa_cons pe_int pa_nil))) (pa_cons (pe_c c_Lpick hr (by decide) (by rfl) (pa_cons (pv 0) (pa_cons (pe_lst (pa_cons (pe_tup (pa_cons pe_str (pa_cons (pe_tup (pa_cons pe_int (pa_cons pe_int pa_nil))) pa_nil))) (pa_cons (pv 18) pa_nil))) pa_nil))) pa_nil)) (by rfl))
      (pss_cons (ps_set (i := 21) sc_Ltask.nd rfl (.inl rfl) (pe_ix ix_list (pe_lst (pa_cons (pe_tup (pa_cons (pv 17) (pa_cons (pv 20) pa_nil))) (pa_cons (pe_tup (pa_cons (pv 20) (pa_cons (pv 17) pa_nil))) pa_nil))) (pv 19) (fun _ _ => rfl)))
      (pss_one (ps_ret (pe_tup (pa_cons (pe_mk m_Task hr (by decide) (by rfl) (pa_cons (pe_callTy call_tuple_of (by rfl) T.b_tuple (by decide +kernel) (pa_cons (pv 6) pa_nil)) (pa_cons (pv 21) (pa_cons (pe_op op_repT (pe_tup (pa_cons pe_int pa_nil)) (pe_callB call_len_seq (by rfl) T.b_len (by decide +kernel) (pa_cons (pv 6) pa_nil))) pa_nil)))) (pa_cons (pv 19) (pa_cons (pe_callTy call_tuple_of (by rfl) T.b_tuple (by decide +kernel) (pa_cons (pv 7) pa_nil)) pa_nil))))))))))))))))), ?_⟩
    refine ⟨_, rfl, len6, fun p1 n1 => ?_⟩
    have k1 := same_upd (o := .lst [.int 3, .int 2, .int 4, .int 3, .int 5, .int 3]) n1
    obtain ⟨f1, f2⟩ := a0.fresh n1
    refine ⟨h, q, p1, _, rfl, a0.same k1, upd_same, f1, f2, by simp, by decide, fun v1 H1 m1 a1 kp1 => ?_⟩
    obtain ⟨many, hm, rfl⟩ := int_of (ns := [3, 2, 4, 3, 5, 3]) m1
    have bm := (by decide : ∀ z ∈ ([3, 2, 4, 3, 5, 3] : List Int), 2 ≤ z ∧ z ≤ 5) many hm
    have kp1 := (Kpt.of_same (h := h) (q := q) k1).trans kp1
    clear k1 f1 f2 n1 m1 hm
    refine ⟨fun σ H' => ∃ z spare : Int, σ = [some (.ref h), some (.str (kdS r)), some (.int many), some (.int z), some (.int spare), none, none, none, none, none, none, none, none, none, none, none, none, none, none, none, none, none] ∧ HpAt H' h q ∧ Kpt h q H H' ∧ 1 ≤ z ∧ z ≤ 4 ∧ (r = false → z = 1) ∧ 0 ≤ spare ∧ spare < 2, ?_, fun σ H2 hM => ?_⟩
    · cases r with
      | false =>
        refine ⟨_, rfl, rfl, _, rfl, iteT ?_⟩
        refine ⟨_, rfl, h, q, 2, rfl, a1, by decide, by decide, fun spare H2 s0 s1 a2 kp2 => ?_⟩
        exact ⟨_, _, rfl, 1, spare, rfl, a2, kp1.trans kp2, by decide, by decide, fun _ => rfl, s0, s1⟩
      | true =>
        refine ⟨_, rfl, rfl, _, rfl, iteF ?_⟩
        refine ⟨_, rfl, h, q, 4, rfl, a1, by decide, by decide, fun d H2 d0 d1 a2 kp2 => ?_⟩
        refine ⟨_, _, rfl, rfl, ?_⟩
        refine ⟨_, rfl, h, q, 2, rfl, a2, by decide, by decide, fun spare H3 s0 s1 a3 kp3 => ?_⟩
        exact ⟨_, _, rfl, 1 + d, spare, rfl, a3, (kp1.trans kp2).trans kp3, by omega, by omega, (fun e => by cases e), s0, s1⟩
    obtain ⟨z, spare, rfl, a2, kp2, z1, z4, zr, s0, s1⟩ := hM
    refine ⟨nil_ok, fun l1 nl1 => ⟨nil_ok, fun l2 nl2 => ⟨_, _, _, rfl, ?_⟩⟩⟩
    obtain ⟨n, hn, bn0, bn1⟩ : ∃ n : Nat, many + spare = (n : Int) ∧ 2 ≤ n ∧ n ≤ 6 := ⟨(many + spare).toNat, by omega, by omega, by omega⟩
    have g1 := a2.fresh nl1
    have j1 := a2.upd (o := .lst []) g1.1 g1.2
    have g2 := j1.fresh nl2
    have ne12 : l1 ≠ l2 := fun e => by rw [← e, upd_same] at nl2; cases nl2
    have f1H := kp2.free nl1 g1.1 g1.2
    have f2H := (kp2.at_new f1H).free nl2 g2.1 g2.2
    refine ⟨fun σ H' => ∃ us bs ul box y8 y9 y10 y11, σ = [some (.ref h), some (.str (kdS r)), some (.int many), some (.int z), some (.int spare), some (.str "bdfhjlnprtvxz"), some (.ref l1), some (.ref l2), y8, y9, y10, y11, none, none, none, none, none, none, none, none, none, none] ∧ LoopA H H' h q l1 l2 us bs ul box n n, ?_, fun σ H3 hM => ?_⟩
    · refine ⟨_, rfl, _, rfl, _, _, rfl, rfl, ?_⟩
      rw [show (fun i j => V.int (i + j)) many spare = V.int (n : Int) from congrArg V.int hn]
      refine ⟨(n : Int), rfl, by omega, by omega, for_range (lo := 0) (n := ((n : Int)).toNat) (fun i σ H' => ∃ us bs ul box y8 y9 y10 y11, σ = [some (.ref h), some (.str (kdS r)), some (.int many), some (.int z), some (.int spare), some (.str "bdfhjlnprtvxz"), some (.ref l1), some (.ref l2), y8, y9, y10, y11, none, none, none, none, none, none, none, none, none, none] ∧ LoopA H H' h q l1 l2 us bs ul box i i)
        ⟨[], [], [], [], none, none, none, none, rfl, ?_, ?_, ?_, upd_same, .nil, .nil, Ul.nil, by simp, rfl, rfl⟩ (fun i σ H3 hi hI => ?_) (fun σ H3 hI => ?_)⟩
      · exact j1.upd g2.1 g2.2
      · exact (kp2.at_new f1H).at_new f2H
      · rw [upd_ne ne12]; exact upd_same
      · obtain ⟨us, bs, ul, box, y8, y9, y10, y11, rfl, g⟩ := hI
        rw [show ((0 : Int) + (i : Nat)) = (i : Int) by omega]
        rw [Int.toNat_natCast] at hi
        have i6 : i < 6 := by omega
        have N1 : l1 ≠ h ∧ l1 ≠ q := g1
        have N2 : l2 ≠ h ∧ l2 ≠ q := g2
        refine ⟨_, rfl, h, q, 9, rfl, g.a, by decide, by decide, fun d1 H4 d10 d11 a4 kp4 => ?_⟩
        have g := g.to kp4 a4 N1 N2
        refine ⟨_, _, rfl, rfl, ?_⟩
        have hl : -3 ≤ d1 - 3 ∧ d1 - 3 ≤ 5 := by omega
        show tSeq _ _ _ ((_ : L2.St).set 9 (some (.int (d1 - 3)))) _
        generalize d1 - 3 = low at *
        refine ⟨_, rfl, _, rfl, len6, fun p5 np5 => ?_⟩
        have k5 := same_upd (o := .lst [.int 4, .int 0, .int 2, .int 6, .int 8, .int 3]) np5
        obtain ⟨f1, f2⟩ := g.a.fresh np5
        have g := g.to (.of_same k5) (g.a.same k5) N1 N2
        refine ⟨h, q, p5, _, rfl, g.a, upd_same, f1, f2, by simp, by decide, fun v6 H6 m6 a6 kp6 => ?_⟩
        obtain ⟨d2, hd2, rfl⟩ := int_of (ns := [4, 0, 2, 6, 8, 3]) m6
        have b2 := (by decide : ∀ z ∈ ([4, 0, 2, 6, 8, 3] : List Int), 0 ≤ z ∧ z ≤ 8) d2 hd2
        have g := g.to kp6 a6 N1 N2
        refine ⟨_, _, rfl, rfl, ?_⟩
        have hh : low ≤ low + d2 ∧ low + d2 ≤ 13 := by omega
        show tSeq _ _ _ ((_ : L2.St).set 10 (some (.int (low + d2)))) _
        generalize low + d2 = high at *
        refine ⟨_, rfl, .inl ⟨rfl, _, sq_lst g.e1⟩, _, rfl, _, rfl, ("bdfhjlnprtvxz" : Str), (i : Int), letterC i, rfl, rfl, by decide, ?_, _, rfl, h, q, 3, rfl, g.a, by decide, by decide, fun d3 H7 d30 d31 a7 kp7 => ?_⟩
        · exact atI_nat (at_letter ⟨i, i6⟩)
        obtain ⟨e, rfl⟩ : ∃ e : Nat, d3 = (e : Int) := ⟨d3.toNat, by omega⟩
        have he : e < 3 := by omega
        have g := g.to kp7 a7 N1 N2
        refine ⟨_, e, rfl, rfl, by decide, by omega, _, _, rfl, rfl, ?_, ?_⟩
        · have := nm_len he
          rw [sizeLine_eq]
          show 1 + _ ≤ _
          omega
        rw [show (⟨#[letterC i]⟩ : Str) ++ Txt.mul "a" (e : Int) = nmOf i e from rfl]
        refine ⟨_, rfl, _, rfl, len3, fun t nt => ?_⟩
        have kt := same_upd (o := .tup [.str (nmOf i e), .int low, .int high]) nt
        have g := g.to (.of_same kt) (g.a.same kt) N1 N2
        have et : upd H7 t (.tup [.str (nmOf i e), .int low, .int high]) t = some (.tup [.str (nmOf i e), .int low, .int high]) := upd_same
        generalize upd H7 t (.tup [.str (nmOf i e), .int low, .int high]) = H8 at *
        have lus := g.uv.len
        have lbs := g.lv.len
        have lul := g.lu
        have lbx := g.lb
        refine ⟨l1, _, _, rfl, rfl, g.e1, small1000 (by omega), ?_⟩
        have g := g.app1 et he hh.1 f1H N1 ne12
        generalize upd H8 l1 (.lst (us ++ [.ref t])) = H9 at *
        refine ⟨_, rfl, _, rfl, _, rfl, _, rfl, _, _, rfl, rfl, _, _, rfl, rfl, _, _, rfl, ?_⟩
        obtain ⟨m, hm, m1, m3⟩ : ∃ m : Int, (if high - low + 1 < 3 then high - low + 1 else 3) = m ∧ 1 ≤ m ∧ m ≤ high - low + 1 ∧ m ≤ 3 := ⟨_, rfl, by split <;> omega, by split <;> omega, by split <;> omega⟩
        rw [hm]
        refine ⟨h, q, m, rfl, g.a, by omega, by omega, fun d5 H10 d50 d51 a10 kp10 => ?_⟩
        have g := g.to kp10 a10 N1 N2
        refine ⟨_, _, rfl, rfl, ?_⟩
        have hf : low + d5 ≤ high := by omega
        refine ⟨_, rfl, .inl ⟨rfl, _, sq_lst g.e2⟩, _, rfl, _, rfl, _, rfl, _, rfl, _, rfl, _, _, rfl, rfl, _, _, rfl, rfl, _, _, rfl, ?_⟩
        obtain ⟨m', hm', m1', m3'⟩ : ∃ m : Int, (if high - (low + d5) + 1 < 3 then high - (low + d5) + 1 else 3) = m ∧ 1 ≤ m ∧ m ≤ 3 ∧ m ≤ high - (low + d5) + 1 := ⟨_, rfl, by split <;> omega, by split <;> omega, by split <;> omega⟩
        rw [hm']
        refine ⟨h, q, m', rfl, g.a, by omega, by omega, fun d6 H11 d60 d61 a11 kp11 => ?_⟩
        have g := g.to kp11 a11 N1 N2
        refine ⟨_, _, rfl, rfl, len2, fun t2 nt2 => ?_⟩
        have kt2 := same_upd (o := .tup [.int (low + d5), .int (high - d6)]) nt2
        have g := g.to (.of_same kt2) (g.a.same kt2) N1 N2
        refine ⟨l2, _, _, rfl, rfl, g.e2, small1000 (by omega), ?_⟩
        have g := g.app2 (lo := low + d5) (hi := high - d6) upd_same f2H N2 ne12 ⟨by omega, by omega, by omega⟩
        exact ⟨_, _, _, _, _, _, _, _, rfl, g⟩
      · rw [Int.toNat_natCast] at hI
        exact hI
    obtain ⟨us, bs, ul, box, y8, y9, y10, y11, rfl, g⟩ := hM
    obtain ⟨m, rfl⟩ : ∃ m : Nat, many = (m : Int) := ⟨many.toNat, by omega⟩
    refine ⟨fun σ H' => ∃ gone : Int, σ = [some (.ref h), some (.str (kdS r)), some (.int (m : Int)), some (.int z), some (.int spare), some (.str "bdfhjlnprtvxz"), some (.ref l1), some (.ref l2), y8, y9, y10, y11, some (.int gone), none, none, none, none, none, none, none, none, none] ∧ LoopA H H' h q l1 l2 us bs ul box n n ∧ ((List.range n).filter (fun i : Nat => decide ((i : Int) ≠ gone))).length = m, ?_, fun σ H4 hM => ?_⟩
    · refine ⟨_, rfl, _, _, rfl, rfl, _, rfl, ite2 (fun h1 => ?_) (fun h1 => ?_)⟩
      · have h1 : 0 < spare := of_decide_eq_true h1
        refine ⟨_, rfl, _, rfl, _, rfl, _, _, rfl, rfl, h, q, _, rfl, g.a, by omega, by omega, fun d H4 d0 d1 a4 kp4 => ?_⟩
        exact ⟨d, rfl, g.to kp4 a4 g1 g2, by have := len_one (n := n) (g := d) d0 (by omega); omega⟩
      · have h1 : ¬ 0 < spare := fun z => h1 (decide_eq_true z)
        refine ⟨_, _, rfl, rfl, -1, rfl, g, ?_⟩
        rw [len_none (by decide)]; omega
    obtain ⟨gone, rfl, g, lm⟩ := hM
    generalize hpl : (List.range n).filter (fun i : Nat => decide ((i : Int) ≠ gone)) = pl at *
    have linc : pl.Pairwise (· < ·) := hpl ▸ List.Pairwise.filter _ List.pairwise_lt_range
    have lwi : ∀ k ∈ pl, k < n := fun k hk => by rw [← hpl] at hk; exact List.mem_range.mp (List.mem_filter.mp hk).1
    refine ⟨_, rfl, _, rfl, _, _, rfl, rfl, ?_⟩
    rw [show (fun i j => V.int (i + j)) (m : Int) spare = V.int (n : Int) from congrArg V.int hn]
    refine ⟨(n : Int), rfl, by omega, by omega, fun D nD => ?_⟩
    refine lc_range (lo := 0) (n := ((n : Int)).toNat) (fun i H' => H' D = some (tL (natI ((List.range i).filter (fun i : Nat => decide ((i : Int) ≠ gone))))) ∧ Same H4 H') ⟨upd_same, same_upd nD⟩ (fun i H5 hi hI => ?_) (fun H5 hI => ?_)
    · obtain ⟨hD, sm⟩ := hI
      rw [show ((0 : Int) + (i : Nat)) = (i : Int) by omega]
      refine ⟨rfl, _, rfl, _, rfl, rfl, _, rfl, ite2 (fun hc => ?_) (fun hc => ?_)⟩
      · have hc : (i : Int) ≠ gone := fun z => by rw [z] at hc; simp at hc
        refine ⟨_, rfl, _, hD, ?_, ?_, same_at sm nD⟩
        · rw [List.length_map, natI_len]
          have := len_all (n := i) (fun i : Nat => decide ((i : Int) ≠ gone))
          exact small1000 (by rw [Int.toNat_natCast] at hi; omega)
        · rw [upd_same, List.range_succ, List.filter_append, List.filter_cons_of_pos (by simpa using hc), List.filter_nil, natI_app]
          exact congrArg some (tL_app _ _).symm
      · have hc : (i : Int) = gone := Classical.byContradiction fun z => hc (by simpa using z)
        refine ⟨?_, sm⟩
        rw [List.range_succ, List.filter_append, List.filter_cons_of_neg (by simpa using hc), List.filter_nil, List.append_nil]; exact hD
    rw [Int.toNat_natCast, hpl] at hI
    obtain ⟨hD, s5⟩ := hI
    have gD := g.a.fresh nD
    have g := g.to (.of_same s5) (g.a.same s5) g1 g2
    refine ⟨nil_ok, fun l3 nl3 => ⟨_, _, rfl, ?_⟩⟩
    have g3 := g.a.fresh nl3
    have lpl : pl.length = m := lm
    have nDl : D ≠ l3 := ne_of_none hD nl3
    have m6 : m ≤ 6 := by omega
    refine ⟨fun σ H' => ∃ jl js y15 y16, σ = [some (.ref h), some (.str (kdS r)), some (.int (m : Int)), some (.int z), some (.int spare), some (.str "bdfhjlnprtvxz"), some (.ref l1), some (.ref l2), y8, y9, y10, y11, some (.int gone), some (.ref D), some (.ref l3), y15, y16, none, none, none, none, none] ∧ HpAt H' h q ∧ Kpt h q H5 H' ∧ H' l3 = some (.lst jl) ∧ All2 (KV r H') jl js ∧ js.map (·.1) = pl ∧ ∀ j ∈ js, 1 ≤ j.2.1 ∧ j.2.1 ≤ 5 ∧ 1 ≤ j.2.2 ∧ j.2.2 ≤ z, ?_, fun σ H6 hM => ?_⟩
    · refine ⟨_, rfl, D, rfl, ⟨_, sq_lst (by rw [upd_ne nDl]; exact hD)⟩, for_list (K := K) (a := D) (xs := (natI pl).map V.int) (fun i σ H' => ∃ jl js y15 y16, σ = [some (.ref h), some (.str (kdS r)), some (.int (m : Int)), some (.int z), some (.int spare), some (.str "bdfhjlnprtvxz"), some (.ref l1), some (.ref l2), y8, y9, y10, y11, some (.int gone), some (.ref D), some (.ref l3), y15, y16, none, none, none, none, none] ∧ HpAt H' h q ∧ Kpt h q H5 H' ∧ H' l3 = some (.lst jl) ∧ All2 (KV r H') jl js ∧ js.map (·.1) = pl.take i ∧ ∀ j ∈ js, 1 ≤ j.2.1 ∧ j.2.1 ≤ 5 ∧ 1 ≤ j.2.2 ∧ j.2.2 ≤ z)
        ⟨[], [], none, none, rfl, g.a.upd g3.1 g3.2, .of_same (same_upd nl3), upd_same, .nil, rfl, by simp⟩ (fun i σ H6 _ hI => ?_) (fun i x σ H6 hx hI => ?_) (fun σ H6 hI => ?_)⟩
      · obtain ⟨jl, js, y15, y16, rfl, a, kp, _⟩ := hI
        exact sq_lst (kp _ _ hD gD.1 gD.2)
      · obtain ⟨jl, js, y15, y16, rfl, a, kp, e3, lv, pm, tw⟩ := hI
        obtain ⟨pa, hpa, rfl⟩ := nat_at hx
        refine ⟨_, rfl, len6, fun p7 np7 => ?_⟩
        have k7 := same_upd (o := .lst [.int 1, .int 0, .int 2, .int 3, .int 1, .int 4]) np7
        obtain ⟨f1, f2⟩ := a.fresh np7
        refine ⟨h, q, p7, _, rfl, a.same k7, upd_same, f1, f2, by simp, by decide, fun v7 H7 m7 a7 kp7 => ?_⟩
        have kp67 := (Kpt.of_same (h := h) (q := q) k7).trans kp7
        have tk7 := (TK.of k7).trans (TK.kp kp7 (a.same k7))
        have e37 := kp67 _ _ e3 g3.1 g3.2
        obtain ⟨d, hd, rfl⟩ := int_of (ns := [1, 0, 2, 3, 1, 4]) m7
        have bd := (by decide : ∀ z ∈ ([1, 0, 2, 3, 1, 4] : List Int), 0 ≤ z ∧ z ≤ 4) d hd
        refine ⟨_, _, rfl, rfl, ?_⟩
        have hi : i < pl.length := (List.getElem?_eq_some_iff.mp hpa).1
        have ljl := lv.len
        have ljs : js.length = i := by
          have := congrArg List.length pm
          rw [List.length_map, List.length_take] at this
          omega
        have fst_ : (js ++ [(pa, 1 + d, (1 : Int))]).map (·.1) = pl.take (i + 1) := by rw [List.map_append, pm, take_one hpa]; rfl
        refine ⟨_, rfl, .inl ⟨rfl, _, sq_lst e37⟩, ?_⟩
        cases r with
        | false =>
          have zr := zr rfl
          refine ⟨_, rfl, rfl, _, rfl, iteT ⟨_, rfl, _, rfl, len2, fun t nt => ?_⟩⟩
          have kt := same_upd (o := .tup [.int (pa : Int), .int (1 + d)]) nt
          refine ⟨l3, _, _, rfl, rfl, kt _ _ e37, small1000 (by omega), ?_⟩
          have tk8 : TK H6 (upd (upd H7 t (.tup [.int (pa : Int), .int (1 + d)])) l3 (.lst (jl ++ [.ref t]))) := (tk7.trans (.of kt)).trans (TK.put (kt _ _ e37))
          refine ⟨jl ++ [.ref t], js ++ [(pa, 1 + d, 1)], _, _, rfl, (a7.same kt).upd g3.1 g3.2, ((kp.trans kp67).trans (.of_same kt)).at_new nl3, upd_same, (kvTk tk8 lv).app ⟨⟨t, rfl, ?_⟩, rfl⟩, fst_, fun j hj => ?_⟩
          · rw [upd_ne (fun z => by rw [z, e37] at nt; cases nt)]; exact upd_same
          · rcases List.mem_append.mp hj with z | z
            · exact tw j z
            · rw [List.mem_singleton.mp z]
              exact ⟨by show 1 ≤ 1 + d; omega, by show 1 + d ≤ 5; omega, by show (1 : Int) ≤ 1; omega, by show (1 : Int) ≤ _; omega⟩
        | true =>
          refine ⟨_, rfl, rfl, _, rfl, iteF ⟨_, rfl, _, rfl, _, rfl, _, rfl, h, q, z, rfl, a7, by omega, by omega, fun dz H8 dz0 dz1 a8 kp8 => ?_⟩⟩
          have e38 := kp8 _ _ e37 g3.1 g3.2
          have tk78 := TK.kp kp8 a7
          refine ⟨_, _, rfl, rfl, len3, fun t nt => ?_⟩
          have kt := same_upd (o := .tup [.int (pa : Int), .int (1 + d), .int (1 + dz)]) nt
          refine ⟨l3, _, _, rfl, rfl, kt _ _ e38, small1000 (by omega), ?_⟩
          have tk8 : TK H6 (upd (upd H8 t (.tup [.int (pa : Int), .int (1 + d), .int (1 + dz)])) l3 (.lst (jl ++ [.ref t]))) := ((tk7.trans tk78).trans (.of kt)).trans (TK.put (kt _ _ e38))
          refine ⟨jl ++ [.ref t], js ++ [(pa, 1 + d, 1 + dz)], _, _, rfl, (a8.same kt).upd g3.1 g3.2, (((kp.trans kp67).trans kp8).trans (.of_same kt)).at_new nl3, upd_same, (kvTk tk8 lv).app ⟨t, rfl, ?_⟩, by rw [← fst_, List.map_append, List.map_append]; rfl, fun j hj => ?_⟩
          · rw [upd_ne (fun z => by rw [z, e38] at nt; cases nt)]; exact upd_same
          · rcases List.mem_append.mp hj with z | z
            · exact tw j z
            · rw [List.mem_singleton.mp z]
              exact ⟨by show 1 ≤ 1 + d; omega, by show 1 + d ≤ 5; omega, by show 1 ≤ 1 + dz; omega, by show 1 + dz ≤ _; omega⟩
      · rw [List.length_map, natI_len, List.take_length] at hI
        exact hI
    obtain ⟨jl, js, y15, y16, rfl, a6, kp6, e3, jv, pm, tw⟩ := hM
    have g := g.to kp6 a6 g1 g2
    have ljs : js.length = pl.length := by rw [← pm, List.length_map]
    have jo : Jbs n z js := by
      refine ⟨⟨?_, fun j hj => ?_, fun j hj => (tw j hj).1, fun j hj => (tw j hj).2.2.1, fun j hj => (tw j hj).2.2.2⟩, by omega, by omega, fun j hj => by have := (tw j hj).2.1; omega⟩
      · have h1 := linc
        rw [← pm, List.pairwise_map] at h1
        exact h1
      · exact lwi _ (by rw [← pm]; exact List.mem_map.mpr ⟨j, hj, rfl⟩)
    have okW : WishOk n (mkW r js z) := mkW_ok jo z4 zr
    have lus := g.uv.len
    have lbs := g.lv.len
    have lul := g.lu
    have lbx := g.lb
    clear hpl
    -- the wish
    refine ⟨fun σ H' => ∃ pw, σ = [some (.ref h), some (.str (kdS r)), some (.int (m : Int)), some (.int z), some (.int spare), some (.str "bdfhjlnprtvxz"), some (.ref l1), some (.ref l2), y8, y9, y10, y11, some (.int gone), some (.ref D), some (.ref l3), y15, y16, some (.ref pw), none, none, none, none] ∧ WV H' (.ref pw) (mkW r js z) ∧ Same H6 H', ?_, fun σ H7 hM => ?_⟩
    · cases r with
      | false =>
        refine ⟨_, rfl, rfl, _, rfl, iteT ⟨_, rfl, _, rfl, l3, jl, rfl, .inl ⟨sq_lst e3, fun pj npj => ⟨len2, fun pw npw => ?_⟩⟩⟩⟩
        have x1 := same_upd (o := .tup jl) npj
        have x2 := x1.trans (same_upd (o := .tup [.str "bench", .ref pj]) npw)
        exact ⟨pw, rfl, ⟨pw, pj, jl, rfl, upd_same, same_upd npw _ _ upd_same, (kvTk (TK.of x2) jv).mono fun _ _ g => g.1⟩, x2⟩
      | true =>
        refine ⟨_, rfl, rfl, _, rfl, iteF ⟨_, rfl, _, rfl, l3, jl, rfl, .inl ⟨sq_lst e3, fun pj npj => ⟨_, rfl, len3, fun pw npw => ?_⟩⟩⟩⟩
        have x1 := same_upd (o := .tup jl) npj
        have x2 := x1.trans (same_upd (o := .tup [.str "room", .ref pj, .int z]) npw)
        exact ⟨pw, rfl, ⟨pw, pj, jl, rfl, upd_same, same_upd npw _ _ upd_same, kvTk (TK.of x2) jv⟩, x2⟩
    obtain ⟨pw, rfl, w1, x2⟩ := hM
    -- another
    refine ⟨fun σ H' => ∃ t4 al, σ = [some (.ref h), some (.str (kdS r)), some (.int (m : Int)), some (.int z), some (.int spare), some (.str "bdfhjlnprtvxz"), some (.ref l1), some (.ref l2), y8, y9, y10, y11, some (.int gone), some (.ref D), some (.ref l3), y15, y16, some (.ref pw), some (.ref t4), none, none, none] ∧ WV H' (.ref t4) al ∧ WishOk n al ∧ Same H7 H', ?_, fun σ H11 hM => ?_⟩
    · have two01 : ∀ j ∈ ([(0, 4, 1), (1, 2, 1)] : List Jb), j.1 < n := fun j hj => by
        simp only [List.mem_cons, List.not_mem_nil, or_false] at hj
        rcases hj with rfl | rfl
        · show 0 < n; omega
        · show 1 < n; omega
      cases r with
      | false =>
        refine ⟨_, rfl, rfl, _, rfl, iteT ⟨len2, fun t1 n1 => ⟨len2, fun t2 n2 => ⟨len2, fun t3 n3 => ⟨len2, fun t4 n4 => ?_⟩⟩⟩⟩⟩
        have y1 := same_upd (o := .tup [.int 0, .int 4]) n1
        have y2 := same_upd (o := .tup [.int 1, .int 2]) n2
        have y3 := same_upd (o := .tup [.ref t1, .ref t2]) n3
        have y4 := same_upd (o := .tup [.str "bench", .ref t3]) n4
        refine ⟨t4, .bench [(0, 4, 1), (1, 2, 1)], rfl, ⟨t4, t3, _, rfl, upd_same, y4 _ _ upd_same, .cons ⟨t1, rfl, (y2.trans (y3.trans y4)) _ _ upd_same⟩ (.cons ⟨t2, rfl, (y3.trans y4) _ _ upd_same⟩ .nil)⟩, ?_, y1.trans (y2.trans (y3.trans y4))⟩
        exact ⟨⟨by decide, two01, by decide, by decide, by decide⟩, by decide, by decide, by decide, by decide⟩
      | true =>
        refine ⟨_, rfl, rfl, _, rfl, iteF ⟨len3, fun t1 n1 => ⟨len3, fun t2 n2 => ⟨len2, fun t3 n3 => ⟨len3, fun t4 n4 => ?_⟩⟩⟩⟩⟩
        have y1 := same_upd (o := .tup [.int 0, .int 1, .int 2]) n1
        have y2 := same_upd (o := .tup [.int 1, .int 4, .int 1]) n2
        have y3 := same_upd (o := .tup [.ref t1, .ref t2]) n3
        have y4 := same_upd (o := .tup [.str "room", .ref t3, .int 2]) n4
        refine ⟨t4, .room [(0, 1, 2), (1, 4, 1)] 2, rfl, ⟨t4, t3, _, rfl, upd_same, y4 _ _ upd_same, .cons ⟨t1, rfl, (y2.trans (y3.trans y4)) _ _ upd_same⟩ (.cons ⟨t2, rfl, (y3.trans y4) _ _ upd_same⟩ .nil)⟩, ?_, y1.trans (y2.trans (y3.trans y4))⟩
        refine ⟨⟨by decide, fun j hj => ?_, by decide, by decide, by decide⟩, by decide, by decide, by decide, by decide⟩
        simp only [List.mem_cons, List.not_mem_nil, or_false] at hj
        rcases hj with rfl | rfl
        · show 0 < n; omega
        · show 1 < n; omega
    obtain ⟨t4, al, rfl, w2, oal, s11⟩ := hM
    have w1 := w1.same s11
    have x11 := x2.trans s11
    have g := g.to (.of_same x11) (g.a.same x11) g1 g2
    refine ⟨_, rfl, h, q, 2, rfl, g.a, by decide, by decide, fun kk H12 k0 k1' a12 kp12 => ?_⟩
    have tk12 := TK.kp kp12 g.a
    have w1 := w1.tk tk12
    have w2 := w2.tk tk12
    have g := g.to kp12 a12 g1 g2
    refine ⟨_, rfl, len2, fun u1 nu1 => ⟨len2, fun u2 nu2 => ⟨_, rfl, len2, fun p8 np8 => ?_⟩⟩⟩
    have y1 := same_upd (o := .tup [.int 0, .int 1]) nu1
    have z1' : upd H12 u1 (.tup [.int 0, .int 1]) u1 = some (tI [0, 1]) := upd_same
    generalize upd H12 u1 (.tup [.int 0, .int 1]) = H13 at *
    have y2 := same_upd (o := .tup [.str "unlike", .ref u1]) nu2
    have z2 : upd H13 u2 (.tup [.str "unlike", .ref u1]) u2 = some (.tup [.str "unlike", .ref u1]) := upd_same
    generalize upd H13 u2 (.tup [.str "unlike", .ref u1]) = H14 at *
    have w3 : WV H14 (.ref u2) (.unlike [0, 1]) := ⟨u2, _, rfl, z2, u1, rfl, y2 _ _ z1'⟩
    have y3 := same_upd (o := .lst [.ref u2, .ref t4]) np8
    have z3 : upd H14 p8 (.lst [.ref u2, .ref t4]) p8 = some (.lst [.ref u2, .ref t4]) := upd_same
    have f8 := (g.a.same (y1.trans y2)).fresh np8
    generalize upd H14 p8 (.lst [.ref u2, .ref t4]) = H15 at *
    have s15 := (y1.trans y2).trans y3
    have w1 := w1.same s15
    have w2 := w2.same s15
    have w3 := w3.same y3
    have g := g.to (.of_same s15) (g.a.same s15) g1 g2
    refine ⟨h, q, p8, _, rfl, g.a, z3, f8.1, f8.2, by simp, (by show 2 ≤ 1000; decide), fun v8 H16 m8 a16 kp16 => ⟨_, _, rfl, ?_⟩⟩
    have tk16 := TK.kp kp16 g.a
    obtain ⟨oth, w4, oo⟩ : ∃ oth, WV H16 v8 oth ∧ WishOk n oth := by
      rcases List.mem_cons.mp m8 with rfl | m8
      · refine ⟨_, w3.tk tk16, fun c hc => ?_, ?_, by decide, by decide⟩
        · rcases List.mem_cons.mp hc with rfl | hc
          · omega
          · rw [List.mem_singleton.mp hc]; omega
        · exact inc01
      · rw [List.mem_singleton.mp m8]
        exact ⟨_, w2.tk tk16, oal⟩
    have w1 := w1.tk tk16
    have g := g.to kp16 a16 g1 g2
    obtain ⟨kn, rfl⟩ : ∃ kn : Nat, kk = (kn : Int) := ⟨kk.toNat, by omega⟩
    have kn2 : kn < 2 := by omega
    refine ⟨_, rfl, _, rfl, len2, fun w5 nw5 => ⟨_, rfl, _, rfl, len2, fun w6 nw6 => ⟨len2, fun p9 np9 => ?_⟩⟩⟩
    have y1 := same_upd (o := .tup [.ref pw, v8]) nw5
    have z1' : upd H16 w5 (.tup [.ref pw, v8]) w5 = some (.tup [.ref pw, v8]) := upd_same
    generalize upd H16 w5 (.tup [.ref pw, v8]) = H17 at *
    have y2 := same_upd (o := .tup [v8, .ref pw]) nw6
    have z2 : upd H17 w6 (.tup [v8, .ref pw]) w6 = some (.tup [v8, .ref pw]) := upd_same
    generalize upd H17 w6 (.tup [v8, .ref pw]) = H18 at *
    have y3 := same_upd (o := .lst [.ref w5, .ref w6]) np9
    have z3 : upd H18 p9 (.lst [.ref w5, .ref w6]) p9 = some (.lst [.ref w5, .ref w6]) := upd_same
    generalize upd H18 p9 (.lst [.ref w5, .ref w6]) = H19 at *
    have s19 := (y1.trans y2).trans y3
    have w1 := w1.same s19
    have w4 := w4.same s19
    have g := g.to (.of_same s19) (g.a.same s19) g1 g2
    obtain ⟨wv, ws, wl, hat, hwv, wvs, wk, wo, lwl⟩ : ∃ (wv : Addr) (ws : List V) (wl : List Wish), ([.ref w5, .ref w6] : List V)[kn]? = some (.ref wv) ∧ H19 wv = some (.tup ws) ∧ WVs H19 ws wl ∧ wl[kn]? = some (mkW r js z) ∧ (∀ z ∈ wl, WishOk n z) ∧ wl.length ≤ 2 := by
      have both : ∀ y, y = mkW r js z ∨ y = oth → WishOk n y := fun z hz => by
        rcases hz with rfl | rfl
        · exact okW
        · exact oo
      have : kn = 0 ∨ kn = 1 := by omega
      rcases this with rfl | rfl
      · exact ⟨w5, _, [mkW r js z, oth], rfl, y3 _ _ (y2 _ _ z1'), .cons w1 (.cons w4 .nil), rfl, (fun z hz => both z (by simpa using hz)), Nat.le_refl 2⟩
      · exact ⟨w6, _, [oth, mkW r js z], rfl, y3 _ _ z2, .cons w4 (.cons w1 .nil), rfl, (fun z hz => both z (by rw [or_comm]; simpa using hz)), Nat.le_refl 2⟩
    refine ⟨_, rfl, p9, _, (kn : Int), _, rfl, rfl, sq_lst z3, atI_nat hat, ?_⟩
    -- the task
    refine ⟨_, rfl, l1, us, rfl, .inl ⟨sq_lst g.e1, fun pu npu => ?_⟩⟩
    have y4 := same_upd (o := .tup us) npu
    have z4' : upd H19 pu (.tup us) pu = some (.tup us) := upd_same
    generalize upd H19 pu (.tup us) = H20 at *
    refine ⟨_, rfl, len1, fun z0 nz0 => ⟨_, rfl, l1, _, rfl, .inl (sq_lst (same_upd nz0 _ _ (y4 _ _ g.e1))), ?_⟩⟩
    refine ⟨z0, _, _, rfl, rfl, sq_tup upd_same, by simp, by omega, by omega, by decide, fun pg npg => fun x dx nx ndx nxd => ?_⟩
    rw [show ((us.length : Nat) : Int).toNat = us.length from Int.toNat_natCast _, rep0] at *
    have y5 := same_upd (o := .tup [.int 0]) nz0
    generalize upd H20 z0 (.tup [.int 0]) = H21 at *
    have y6 := same_upd (o := .tup ((List.replicate us.length (0 : Int)).map V.int)) npg
    have z6 : upd H21 pg (.tup ((List.replicate us.length (0 : Int)).map V.int)) pg = some (tI (List.replicate us.length 0)) := upd_same
    generalize upd H21 pg (.tup ((List.replicate us.length (0 : Int)).map V.int)) = H22 at *
    have y7 := same_upd (o := .own x) ndx
    have nx7 : upd H22 dx (.own x) x = none := by rw [upd_ne nxd.symm]; exact nx
    have y8' := y7.trans (same_upd (o := .ins C dx []) nx7)
    have z8 : upd (upd H22 dx (.own x)) x (.ins C dx []) x = some (.ins C dx []) := upd_same
    generalize upd (upd H22 dx (.own x)) x (.ins C dx []) = H24 at *
    have s19_22 := (y4.trans y5).trans y6
    have s24 := s19_22.trans y8'
    have z4'' := y5 _ _ z4'
    have uo : UnkOk ul := g.u.ok (by omega) (by omega)
    have lrep : (List.replicate us.length (0 : Int)).length = ul.length := by rw [List.length_replicate, lus]
    have hpu22 := y6 _ _ z4''
    refine ⟨x, dx, pu, wv, pg, us, ws, ul, wl, List.replicate us.length 0, rfl, z8, y8' _ _ hpu22, g.uv.tk (.of s24), s24 _ _ hwv, wvs.same s24, y8' _ _ z6, uo, by rw [lul]; exact wo, lrep, fun H25 s25 => ⟨rfl, ?_⟩⟩
    have s22 : Same H22 (upd H25 x (.ins C dx [("unknowns", .ref pu), ("wishes", .ref wv), ("goal", .ref pg)])) := same_at (y8'.trans s25) nx
    have ex : upd H25 x (.ins C dx [("unknowns", .ref pu), ("wishes", .ref wv), ("goal", .ref pg)]) x = some (.ins C dx [("unknowns", .ref pu), ("wishes", .ref wv), ("goal", .ref pg)]) := upd_same
    generalize upd H25 x (.ins C dx [("unknowns", .ref pu), ("wishes", .ref wv), ("goal", .ref pg)]) = H26 at *
    have s26 := s19_22.trans s22
    refine ⟨_, rfl, _, rfl, l2, bs, rfl, .inl ⟨sq_lst (s26 _ _ g.e2), fun pb npb => ⟨len3, fun pr npr => ?_⟩⟩⟩
    have y9' := same_upd (o := .tup bs) npb
    have z9 : upd H26 pb (.tup bs) pb = some (.tup bs) := upd_same
    generalize upd H26 pb (.tup bs) = H27 at *
    have yA := same_upd (o := .tup [.ref x, .int (kn : Int), .ref pb]) npr
    have s28 := (s26.trans y9').trans yA
    have t28 := s22.trans (y9'.trans yA)
    obtain ⟨mj, mjs⟩ := mkW_j r js z
    refine fin pr (.ref x) (.ref pb) kn n (mkW r js z) box ul wl (List.replicate us.length 0) _ upd_same ?_ (by cases r <;> rfl) (g.a.same s28) (g.kp.trans (.of_same s28))
    refine ⟨⟨⟨x, dx, pu, wv, pg, us, ws, rfl, yA _ _ (y9' _ _ ex), t28 _ _ hpu22, g.uv.tk (.of s28), s28 _ _ hwv, wvs.same s28, t28 _ _ z6⟩, wk, lul.symm, uo, wo, by rw [lrep]; exact lul, mj⟩, ⟨pb, bs, rfl, yA _ _ z9, p2Tk (.of s28) g.lv⟩, lbx, fun r hr => (g.two r hr).1, fun r hr => (g.two r hr).2, by omega, by rw [mjs]; exact jo.six, fun j hj => jo.ln j (by rw [mjs] at hj; exact hj), mkW_size z4, lwl⟩
end
end M60

namespace ShT
open PySem PySem.Spec PyProof.Rows L2 SX Own Gd
/-! ### data shown -/
structure Shw (k W : Nat) (d : PyData) : Prop where
  s : d.showable = true
  n : d.hasDict = false
  p : d.depth ≤ k
  l : d.leavesShort 13 = true
  w : d.weight ≤ W
theorem Shw.mono {k W k' W' : Nat} {d : PyData} (h : Shw k W d) (h1 : k ≤ k') (h2 : W ≤ W') : Shw k' W' d := ⟨h.s, h.n, Nat.le_trans h.p h1, h.l, Nat.le_trans h.w h2⟩
theorem Shw.int {c : Int} (h : c.natAbs < 10 ^ 12) : Shw 0 40 (.int c) := by
  have g : c.natAbs.log2 < 40 := PySem.Flt.log2_lt_of (by decide) (Nat.lt_trans h (by decide))
  refine ⟨?_, ?_, ?_, ?_, ?_⟩
  · simp only [PyData.showable]; exact decide_eq_true (by omega)
  · simp only [PyData.hasDict]
  · simp only [PyData.depth]; exact Nat.le_refl _
  · simp only [PyData.leavesShort]; exact decide_eq_true (PyData.shown_int_le h)
  · simp only [PyData.weight]; split <;> omega
theorem Shw.bool (b : Bool) : Shw 0 40 (.bool b) := by
  refine ⟨?_, ?_, ?_, ?_, ?_⟩ <;> simp [PyData.showable, PyData.hasDict, PyData.depth, PyData.leavesShort, PyData.weight]
theorem Shw.none : Shw 0 40 .none := by
  refine ⟨?_, ?_, ?_, ?_, ?_⟩ <;> simp [PyData.showable, PyData.hasDict, PyData.depth, PyData.leavesShort, PyData.weight]
theorem Shw.str {x : Str} (h1 : x.cps.size ≤ 40) (h2 : x.cps.toList.all (fun c => decide (c < 16 ^ 8)) = true) : Shw 0 40 (.str x) := by
  refine ⟨?_, ?_, ?_, ?_, ?_⟩
  · simp only [PyData.showable]
  · simp only [PyData.hasDict]
  · simp only [PyData.depth]; exact Nat.le_refl _
  · simp only [PyData.leavesShort]; exact h2
  · simp only [PyData.weight]; exact h1
theorem shwAll {k W : Nat} : ∀ {ds : List PyData}, (∀ d ∈ ds, Shw k W d) → PyData.showableAll ds = true ∧ PyData.hasDictAll ds = false ∧ PyData.depthAll ds ≤ k ∧ PyData.leavesShortAll 13 ds = true ∧ PyData.weightAll ds ≤ (W + 1) * ds.length
  | [], _ => by simp [PyData.showableAll, PyData.hasDictAll, PyData.depthAll, PyData.leavesShortAll, PyData.weightAll]
  | d :: ds, h => by
    obtain ⟨h1, h2, h3, h4, h5⟩ := shwAll (ds := ds) fun x hx => h x (List.mem_cons_of_mem _ hx)
    obtain ⟨g1, g2, g3, g4, g5⟩ := h d (List.mem_cons_self ..)
    refine ⟨?_, ?_, ?_, ?_, ?_⟩
    · simp only [PyData.showableAll, g1, h1, Bool.and_true]
    · simp only [PyData.hasDictAll, g2, h2, Bool.or_false]
    · simp only [PyData.depthAll]; omega
    · simp only [PyData.leavesShortAll, g4, h4, Bool.and_true]
    · simp only [PyData.weightAll, List.length_cons, Nat.mul_add]; omega
theorem Shw.tup {k W n : Nat} {ds : List PyData} (h : ∀ d ∈ ds, Shw k W d) (l : ds.length ≤ n) : Shw (k + 1) ((W + 1) * n) (.tuple ds) := by
  obtain ⟨h1, h2, h3, h4, h5⟩ := shwAll h
  refine ⟨?_, ?_, ?_, ?_, ?_⟩
  · simp only [PyData.showable, h1]
  · simp only [PyData.hasDict, h2]
  · simp only [PyData.depth]; omega
  · simp only [PyData.leavesShort, h4]
  · simp only [PyData.weight]
    exact Nat.le_trans h5 (Nat.mul_le_mul_left _ l)
theorem Shw.lst {k W n : Nat} {ds : List PyData} (h : ∀ d ∈ ds, Shw k W d) (l : ds.length ≤ n) : Shw (k + 1) ((W + 1) * n) (.list ds) := by
  obtain ⟨h1, h2, h3, h4, h5⟩ := shwAll h
  refine ⟨?_, ?_, ?_, ?_, ?_⟩
  · simp only [PyData.showable, h1]
  · simp only [PyData.hasDict, h2]
  · simp only [PyData.depth]; omega
  · simp only [PyData.leavesShort, h4]
  · simp only [PyData.weight]
    exact Nat.le_trans h5 (Nat.mul_le_mul_left _ l)
/-- repr of a tuple, a number or None -/
def rShowX (K : PySem.W.Frag) : List V → Hp → VK → Prop := fun xs H Q => ∃ v d, xs = [v] ∧ Dp K H v d ∧ Shw 60 1000000 d ∧ ((∃ a, v = .ref a) ∨ v = .non ∨ ∃ i, v = .int i) ∧ Q (.str d.shown) H
theorem call_showX {X : Cx} (hgd : X.A.guards = some []) (hu : X.A.units + 64 < cLine) : CallR X (.builtin "repr") (rShowX X.K) := by
  intro pins s σ H xs us Q I r h
  obtain ⟨v, d, rfl, dp, sh, hv, q⟩ := h
  rcases hv with ⟨a, rfl⟩ | rfl | ⟨i, rfl⟩
  · exact call_show hgd hu pins s σ H _ us Q I r ⟨a, d, rfl, dp, sh.s, sh.n, sh.p, PyData.shown_fits (B := 13) (by decide) (by decide) sh.l (Nat.le_trans sh.w (by decide)), q⟩
  · cases dp
    obtain ⟨u, rfl, r1⟩ := vals1 r
    cases (show u = Value.none from r1)
    exact PySem.P.repr_of_none ⟨.str "None", H, I.tok _, ⟨_, rfl⟩, q⟩
  · cases dp
    obtain ⟨u, rfl, t, rfl⟩ := vals1 r
    have := sh.s
    simp only [PyData.showable] at this
    exact PySem.P.repr_of_int (of_decide_eq_true this) ⟨.str _, H, I.tok _, ⟨_, rfl⟩, q⟩
end ShT

namespace M60
open PySem PySem.Spec PyProof.Rows L2 SX Own Gd
open C8 (Cal pe_c pe_gc pe_mk Mak pss_cut)
open M12 (Sn ld net Pos ld_nn cov lb lb_le lb_step lb_nil)
/-- the law's windows: a list of tuples -/
def LwV (H : Hp) (v : V) (ws : List Wd) : Prop := ∃ p us, v = .ref p ∧ H p = some (.lst us) ∧ All2 (WdV H) us ws
theorem LwV.tk {H H' : Hp} {v : V} {ws : List Wd} (h : LwV H v ws) (s : Same H H') : LwV H' v ws := by
  obtain ⟨p, us, e, f, g⟩ := h
  exact ⟨p, us, e, s _ _ f, wdTk (TK.of s) g⟩
/-- jobs told as a list or as a tuple -/
def JsV (K : PySem.W.Frag) (H : Hp) (v : V) (J : List Nat) : Prop := ∃ p, v = .ref p ∧ (H p = some (.lst (natJ J)) ∨ H p = some (.tup (natJ J)))
theorem natJ_at {J : List Nat} {i : Nat} {x : V} (h : (natJ J)[i]? = some x) : ∃ a, J[i]? = some a ∧ x = .int (a : Int) := by
  unfold natJ at h
  rw [List.getElem?_map] at h
  obtain ⟨a, ha, e⟩ := Option.map_eq_some_iff.mp h
  exact ⟨a, ha, e.symm⟩
theorem natJ_len (J : List Nat) : (natJ J).length = J.length := List.length_map _
theorem natJ_app (A B : List Nat) : natJ (A ++ B) = natJ A ++ natJ B := List.map_append
theorem lsmap (f : Nat → Int) : ∀ l : List Nat, (l.map f).sum = ls f l
  | [] => rfl
  | a :: r => by rw [List.map_cons, List.sum_cons, lsmap f r]; rfl
section
variable {P : Program} {w : World} {K : PySem.W.Frag} {mg : Str → Option Value} {base : Heap} {aW aT : Addr} {es : Array DictEntry} {nn : Nat}
abbrev s_Lwithin : Stmt := topS 104
abbrev n_Lwithin : List Str := ["windows", "a", "b", "job"]
theorem sc_Lwithin : FnScope n_Lwithin ["windows", "a", "b"] (defScope s_Lwithin) := ⟨rfl, rfl, rfl, by decide +kernel, rfl, by decide +kernel, by decide +kernel⟩
def spWiL : Sp := fun vs H Q _ => ∃ (v : V) (ws : List Wd) (a b : Int), vs = [v, .int a, .int b] ∧ LwV H v ws ∧ ws.length ≤ 20 ∧ ∀ p H', Same H H' → H p = none → H' p = some (.lst (natJ (inL ws a b))) → Q (.ref p) H'
theorem ok_Lwithin {f : Addr} {fd : FuncData} (F : Fun K "_law_within" "_law_within" s_Lwithin f fd) (T : Txt K mg w aW aT es nn) : FnOk P w K mg base CX0 1 f fd ["windows", "a", "b"] spWiL := by
  refine F.ok sc_Lwithin (fun vs H Q E h => ?_) (fun cdv A outer s0 H vs Q E hr h => ?_)
  · obtain ⟨v, ws, a, b, rfl, _⟩ := h
    rfl
  · obtain ⟨v, ws, a, b, rfl, ⟨pl, us, rfl, hp, lv⟩, few, q⟩ := h
    have lus := lv.len
    refine ⟨_, (pss_one (ps_ret (pe_lc (own := [("job", 3)]) rfl sc_Lwithin.nd (pi_range1 (by rfl) T.b_range (pa_cons (pe_callB call_len_seq (by rfl) T.b_len (by decide +kernel) (pa_cons (pv 0) pa_nil)) pa_nil)) (blkOk_by (N := n_Lwithin) (sc := defScope s_Lwithin) (by decide +kernel)) (fun _ _ _ _ _ => (pg_name (i := 3) sc_Lwithin.nd rfl (.inl rfl))) (fun _ _ _ _ _ => (pts_one (PW.pt (pw_and (pt_cmpR op_le (pv 1) (pe_ix (r := rIxT K) ix_tup (pe_ix (r := rIxL K) ix_list (pv 0) (pv 3) (fun _ _ => rfl)) pe_int (fun _ _ => rfl)) (nomark _)) (pw_and1 (pt_cmpR op_le (pe_op op_add (pe_ix (r := rIxT K) ix_tup (pe_ix (r := rIxL K) ix_list (pv 0) (pv 3) (fun _ _ => rfl)) pe_int (fun _ _ => rfl)) (pe_ix (r := rIxT K) ix_tup (pe_ix (r := rIxL K) ix_list (pv 0) (pv 3) (fun _ _ => rfl)) pe_int (fun _ _ => rfl))) (pv 2) (nomark _))))))) (fun _ _ _ _ _ => (pv 3))))), ?_⟩
    refine ⟨_, rfl, pl, us, rfl, .inl (sq_lst hp), us.length, rfl, by omega, by omega, fun D nD => ?_⟩
    refine lc_range (lo := 0) (n := (us.length : Int).toNat) (fun i H' => H' D = some (.lst (natJ ((List.range i).filter fun k => decide (a ≤ lo ws k ∧ en ws k ≤ b)))) ∧ Same H H') ⟨upd_same, same_upd nD⟩ (fun i H3 hi hI => ?_) (fun H3 hI => ?_)
    · obtain ⟨hD, sm⟩ := hI
      rw [Int.toNat_natCast] at hi
      rw [show ((0 : Int) + (i : Nat)) = (i : Int) by omega]
      obtain ⟨pk, uk, hpk⟩ := wd_at lv (show i < ws.length by omega)
      have hpk := sm _ _ hpk
      have hp3 := sm _ _ hp
      have lf := filt_len (fun k => decide (a ≤ lo ws k ∧ en ws k ≤ b)) i
      have no_ : ¬ (a ≤ lo ws i ∧ en ws i ≤ b) → H3 D = some (.lst (natJ ((List.range (i + 1)).filter fun k => decide (a ≤ lo ws k ∧ en ws k ≤ b)))) := fun z => by
        rw [filter_range_succ, if_neg (by simpa using z), List.append_nil]; exact hD
      refine ⟨rfl, _, rfl, _, rfl, _, rfl, pl, us, (i : Int), _, rfl, rfl, sq_lst hp3, atI_nat uk, pk, _, 0, _, rfl, rfl, sq_tup hpk, atI_nat (j := 0) rfl, _, _, rfl, rfl, _, rfl, ite2 (fun c1 => ?_) (fun c1 => ?_)⟩
      · refine ⟨_, rfl, _, rfl, pl, us, (i : Int), _, rfl, rfl, sq_lst hp3, atI_nat uk, pk, _, 1, _, rfl, rfl, sq_tup hpk, atI_nat (j := 1) rfl, _, rfl, _, rfl, pl, us, (i : Int), _, rfl, rfl, sq_lst hp3, atI_nat uk, pk, _, 2, _, rfl, rfl, sq_tup hpk, atI_nat (j := 2) rfl, _, _, rfl, rfl, _, rfl, _, _, rfl, rfl, _, rfl, ite2 (fun c2 => ?_) (fun c2 => ?_)⟩
        · have yes : a ≤ lo ws i ∧ en ws i ≤ b := ⟨of_decide_eq_true c1, of_decide_eq_true c2⟩
          refine ⟨_, rfl, _, hD, by rw [natJ_len]; exact small1000 (by omega), ?_, same_at sm nD⟩
          rw [upd_same, filter_range_succ, if_pos (decide_eq_true yes), natJ_app]; rfl
        · exact ⟨no_ fun z => c2 (decide_eq_true z.2), sm⟩
      · exact ⟨no_ fun z => c1 (decide_eq_true z.1), sm⟩
    · obtain ⟨hD, sm⟩ := hI
      rw [Int.toNat_natCast, lus] at hD
      exact q D _ sm nD hD
abbrev s_Lwork : Stmt := topS 105
abbrev n_Lwork : List Str := ["windows", "jobs", "job"]
theorem sc_Lwork : FnScope n_Lwork ["windows", "jobs"] (defScope s_Lwork) := ⟨rfl, rfl, rfl, by decide +kernel, rfl, by decide +kernel, by decide +kernel⟩
def spWkL (K : PySem.W.Frag) : Sp := fun vs H Q _ => ∃ (v vj : V) (ws : List Wd) (J : List Nat), vs = [v, vj] ∧ LwV H v ws ∧ JsV K H vj J ∧ (∀ a ∈ J, a < ws.length ∧ 0 ≤ ln ws a ∧ ln ws a ≤ 1000000) ∧ J.length ≤ 20 ∧ ∀ H', Same H H' → Q (.int (ls (wk ws) J)) H'
theorem ok_Lwork {f : Addr} {fd : FuncData} (F : Fun K "_law_work" "_law_work" s_Lwork f fd) (T : Txt K mg w aW aT es nn) : FnOk P w K mg base CX0 1 f fd ["windows", "jobs"] (spWkL K) := by
  refine F.ok sc_Lwork (fun vs H Q E h => ?_) (fun cdv A outer s0 H vs Q E hr h => ?_)
  · obtain ⟨v, vj, ws, J, rfl, _⟩ := h
    rfl
  · obtain ⟨v, vj, ws, J, rfl, ⟨pl, us, rfl, hp, lv⟩, ⟨pj, rfl, hj⟩, mem, few, q⟩ := h
    have step : ∀ (i : Nat) (x : V) (H2 : Hp) (D : Addr), (natJ J)[i]? = some x → H2 D = some (.lst (((J.take i).map (wk ws)).map V.int)) → Same H H2 → H D = none → ∃ a : Nat, x = .int (a : Int) ∧ J[i]? = some a ∧ ∃ pk, us[a]? = some (.ref pk) ∧ H2 pk = some (.tup [.int (lo ws a), .int (hi ws a), .int (ln ws a), .int (nd ws a)]) := fun i x H2 D hx hD sm nD => by
      obtain ⟨a, ha, rfl⟩ := natJ_at hx
      obtain ⟨pk, uk, hpk⟩ := wd_at lv (mem a (List.mem_of_getElem? ha)).1
      exact ⟨a, rfl, ha, pk, uk, sm _ _ hpk⟩
    refine ⟨_, (pss_one (ps_ret (pe_callB (cr_sum rfl) (by rfl) T.b_sum (by decide +kernel) (pa_cons (pe_lc (own := [("job", 2)]) rfl sc_Lwork.nd (pi_seqE (pv 1)) (blkOk_by (N := n_Lwork) (sc := defScope s_Lwork) (by decide +kernel)) (fun _ _ _ _ _ => (pg_name (i := 2) sc_Lwork.nd rfl (.inl rfl))) (fun _ _ _ _ _ => pts_nil) (fun _ _ _ _ _ => (pe_op op_mul (pe_ix (r := rIxT K) ix_tup (pe_ix (r := rIxL K) ix_list (pv 0) (pv 2) (fun _ _ => rfl)) pe_int (fun _ _ => rfl)) (pe_ix (r := rIxT K) ix_tup (pe_ix (r := rIxL K) ix_list (pv 0) (pv 2) (fun _ _ => rfl)) pe_int (fun _ _ => rfl))))) pa_nil)))), ?_⟩

    rcases hj with hj | hj
    · refine .inl ⟨_, rfl, pj, rfl, ⟨_, sq_lst hj⟩, fun D nD => ?_⟩
      refine lc_list (K := K) (a := pj) (xs := natJ J) (fun i H' => H' D = some (.lst (((J.take i).map (wk ws)).map V.int)) ∧ Same H H') ⟨upd_same, same_upd nD⟩ (fun i H' _ h => sq_lst (h.2 _ _ hj)) ?_ ?_
      · rintro i x H2 hx ⟨hD, sm⟩
        obtain ⟨a, rfl, ha, pk, uk, hpk⟩ := step i x H2 D hx hD sm nD
        have li := (List.getElem?_eq_some_iff.mp ha).1
        have ma := mem a (List.mem_of_getElem? ha)
        refine ⟨rfl, _, rfl, _, rfl, pl, us, (a : Int), _, rfl, rfl, sq_lst (sm _ _ hp), atI_nat uk, pk, _, 2, _, rfl, rfl, sq_tup hpk, atI_nat (j := 2) rfl, _, rfl, _, rfl, pl, us, (a : Int), _, rfl, rfl, sq_lst (sm _ _ hp), atI_nat uk, pk, _, 3, _, rfl, rfl, sq_tup hpk, atI_nat (j := 3) rfl, _, _, rfl, rfl, .inl ⟨by omega, by omega⟩, _, hD, by rw [List.length_map, List.length_map, List.length_take]; exact small1000 (by omega), ?_, same_at sm nD⟩
        rw [upd_same, take_one ha, List.map_append, List.map_append]; rfl
      · rintro H2 ⟨hD, sm⟩
        rw [natJ_len, List.take_length] at hD
        refine ⟨D, _, rfl, sq_lst hD, ?_⟩
        rw [lsmap]
        exact q _ sm
    · refine .inr ⟨_, rfl, pj, rfl, ⟨_, sq_tup hj⟩, fun D nD => ?_⟩
      refine lc_tup (K := K) (a := pj) (xs := natJ J) (fun i H' => H' D = some (.lst (((J.take i).map (wk ws)).map V.int)) ∧ Same H H') ⟨upd_same, same_upd nD⟩ (fun i H' _ h => sq_tup (h.2 _ _ hj)) ?_ ?_
      · rintro i x H2 hx ⟨hD, sm⟩
        obtain ⟨a, rfl, ha, pk, uk, hpk⟩ := step i x H2 D hx hD sm nD
        have li := (List.getElem?_eq_some_iff.mp ha).1
        have ma := mem a (List.mem_of_getElem? ha)
        refine ⟨rfl, _, rfl, _, rfl, pl, us, (a : Int), _, rfl, rfl, sq_lst (sm _ _ hp), atI_nat uk, pk, _, 2, _, rfl, rfl, sq_tup hpk, atI_nat (j := 2) rfl, _, rfl, _, rfl, pl, us, (a : Int), _, rfl, rfl, sq_lst (sm _ _ hp), atI_nat uk, pk, _, 3, _, rfl, rfl, sq_tup hpk, atI_nat (j := 3) rfl, _, _, rfl, rfl, .inl ⟨by omega, by omega⟩, _, hD, by rw [List.length_map, List.length_map, List.length_take]; exact small1000 (by omega), ?_, same_at sm nD⟩
        rw [upd_same, take_one ha, List.map_append, List.map_append]; rfl
      · rintro H2 ⟨hD, sm⟩
        rw [natJ_len, List.take_length] at hD
        refine ⟨D, _, rfl, sq_lst hD, ?_⟩
        rw [lsmap]
        exact q _ sm
abbrev s_Llate : Stmt := topS 106
abbrev n_Llate : List Str := ["windows", "size", "i", "j", "one", "other"]
theorem sc_Llate : FnScope n_Llate ["windows", "size", "i", "j"] (defScope s_Llate) := ⟨rfl, rfl, rfl, by decide +kernel, rfl, by decide +kernel, by decide +kernel⟩
def lateX (ws : List Wd) (z : Int) (i j : Nat) : Bool := decide (lateP ws z i j)
def spLtL : Sp := fun vs H Q _ => ∃ (v : V) (ws : List Wd) (z : Int) (i j : Nat), vs = [v, .int z, .int i, .int j] ∧ LwV H v ws ∧ i < ws.length ∧ j < ws.length ∧ Q (.bl (lateX ws z i j)) H
theorem ok_Llate {f : Addr} {fd : FuncData} (F : Fun K "_law_late" "_law_late" s_Llate f fd) (T : Txt K mg w aW aT es nn) : FnOk P w K mg base CX0 1 f fd ["windows", "size", "i", "j"] spLtL := by
  refine F.ok sc_Llate (fun vs H Q E h => ?_) (fun cdv A outer s0 H vs Q E hr h => ?_)
  · obtain ⟨v, ws, z, i, j, rfl, _⟩ := h
    rfl
  · obtain ⟨v, ws, z, i, j, rfl, ⟨pl, us, rfl, hp, lv⟩, hi_, hj, q⟩ := h
    obtain ⟨p1, u1, h1⟩ := wd_at lv hi_
    obtain ⟨p2, u2, h2⟩ := wd_at lv hj
    refine ⟨_, (pss_cons (ps_par (i := 4) (j := 5) (by rfl) sc_Llate.nd rfl rfl (by decide) rfl rfl (pa_cons (pe_ix ix_list (pv 0) (pv 2) (fun _ _ => rfl)) (pa_cons (pe_ix ix_list (pv 0) (pv 3) (fun _ _ => rfl)) pa_nil)) (by rfl))
      (pss_cons (ps_if (pt_cmpR op_le (pe_op op_add (pe_ix ix_tup (pv 4) pe_int (fun _ _ => rfl)) (pe_ix ix_tup (pv 5) pe_int (fun _ _ => rfl))) (pv 1) (nomark _)) (pss_one (ps_ret pe_bl)) pss_nil)
      (pss_one (ps_ret (pe_and (pe_cmpR op_gt (pe_op op_add (pe_ix ix_tup (pv 4) pe_int (fun _ _ => rfl)) (pe_ix ix_tup (pv 4) pe_int (fun _ _ => rfl))) (pe_ix ix_tup (pv 5) pe_int (fun _ _ => rfl)) (nomark _)) (pe_one (pe_cmpR op_gt (pe_op op_add (pe_ix ix_tup (pv 5) pe_int (fun _ _ => rfl)) (pe_ix ix_tup (pv 5) pe_int (fun _ _ => rfl))) (pe_ix ix_tup (pv 4) pe_int (fun _ _ => rfl)) (nomark _)))))))), ?_⟩
    refine ⟨_, rfl, _, rfl, pl, us, (i : Int), _, rfl, rfl, sq_lst hp, atI_nat u1, _, rfl, _, rfl, pl, us, (j : Int), _, rfl, rfl, sq_lst hp, atI_nat u2, _, _, rfl, ?_⟩
    refine ⟨_, rfl, p1, _, 3, _, rfl, rfl, sq_tup h1, atI_nat (j := 3) rfl, _, rfl, p2, _, 3, _, rfl, rfl, sq_tup h2, atI_nat (j := 3) rfl, _, _, rfl, rfl, _, rfl, _, _, rfl, rfl, _, rfl, ite2 (fun c => ?_) (fun c => ?_)⟩
    · have e : lateX ws z i j = false := decide_eq_false fun h => by have := of_decide_eq_true c; have := h.1; omega
      rw [e] at q; exact q
    · refine ⟨_, rfl, p1, _, 0, _, rfl, rfl, sq_tup h1, atI_nat (j := 0) rfl, _, rfl, p1, _, 2, _, rfl, rfl, sq_tup h1, atI_nat (j := 2) rfl, _, _, rfl, rfl, _, rfl, p2, _, 1, _, rfl, rfl, sq_tup h2, atI_nat (j := 1) rfl, _, _, rfl, rfl, _, rfl, ite2 (fun c2 => ?_) (fun c2 => ?_)⟩
      · refine ⟨_, rfl, p2, _, 0, _, rfl, rfl, sq_tup h2, atI_nat (j := 0) rfl, _, rfl, p2, _, 2, _, rfl, rfl, sq_tup h2, atI_nat (j := 2) rfl, _, _, rfl, rfl, _, rfl, p1, _, 1, _, rfl, rfl, sq_tup h1, atI_nat (j := 1) rfl, _, _, rfl, rfl, ?_⟩
        have e : lateX ws z i j = decide (hi ws i < lo ws j + ln ws j) := by
          have h0 : lateX ws z i j = true ↔ lateP ws z i j := by unfold lateX; exact decide_eq_true_iff
          refine bool_iff ?_
          rw [h0, decide_eq_true_iff]
          unfold lateP
          have c := c; have c2 := of_decide_eq_true c2
          refine ⟨fun h => h.2.2, fun h => ⟨?_, c2, h⟩⟩
          by_cases g : nd ws i + nd ws j ≤ z
          · exact absurd (decide_eq_true g) c
          · omega
        rw [e] at q; exact q
      · have e : lateX ws z i j = false := decide_eq_false fun h => c2 (decide_eq_true h.2.1)
        rw [e] at q; exact q
abbrev s_Lsure : Stmt := topS 107
abbrev n_Lsure : List Str := ["windows", "moment", "job"]
theorem sc_Lsure : FnScope n_Lsure ["windows", "moment"] (defScope s_Lsure) := ⟨rfl, rfl, rfl, by decide +kernel, rfl, by decide +kernel, by decide +kernel⟩
def spSuL : Sp := fun vs H Q _ => ∃ (v : V) (ws : List Wd) (m : Int), vs = [v, .int m] ∧ LwV H v ws ∧ ws.length ≤ 20 ∧ ∀ p H', Same H H' → H p = none → H' p = some (.lst (natJ (sureL ws m))) → Q (.ref p) H'
theorem ok_Lsure {f : Addr} {fd : FuncData} (F : Fun K "_law_sure" "_law_sure" s_Lsure f fd) (T : Txt K mg w aW aT es nn) : FnOk P w K mg base CX0 1 f fd ["windows", "moment"] spSuL := by
  refine F.ok sc_Lsure (fun vs H Q E h => ?_) (fun cdv A outer s0 H vs Q E hr h => ?_)
  · obtain ⟨v, ws, m, rfl, _⟩ := h
    rfl
  · obtain ⟨v, ws, m, rfl, ⟨pl, us, rfl, hp, lv⟩, few, q⟩ := h
    have lus := lv.len
    refine ⟨_, (pss_one (ps_ret (pe_lc (own := [("job", 2)]) rfl sc_Lsure.nd (pi_range1 (by rfl) T.b_range (pa_cons (pe_callB call_len_seq (by rfl) T.b_len (by decide +kernel) (pa_cons (pv 0) pa_nil)) pa_nil)) (blkOk_by (N := n_Lsure) (sc := defScope s_Lsure) (by decide +kernel)) (fun _ _ _ _ _ => (pg_name (i := 2) sc_Lsure.nd rfl (.inl rfl))) (fun _ _ _ _ _ => (pts_one (PW.pt (pw_and (pt_cmpR op_le (pe_ix (r := rIxT K) ix_tup (pe_ix (r := rIxL K) ix_list (pv 0) (pv 2) (fun _ _ => rfl)) pe_int (fun _ _ => rfl)) (pv 1) (nomark _)) (pw_and1 (pt_cmpR op_lt (pv 1) (pe_op op_add (pe_ix (r := rIxT K) ix_tup (pe_ix (r := rIxL K) ix_list (pv 0) (pv 2) (fun _ _ => rfl)) pe_int (fun _ _ => rfl)) (pe_ix (r := rIxT K) ix_tup (pe_ix (r := rIxL K) ix_list (pv 0) (pv 2) (fun _ _ => rfl)) pe_int (fun _ _ => rfl))) (nomark _))))))) (fun _ _ _ _ _ => (pv 2))))), ?_⟩
    refine ⟨_, rfl, pl, us, rfl, .inl (sq_lst hp), us.length, rfl, by omega, by omega, fun D nD => ?_⟩
    refine lc_range (lo := 0) (n := (us.length : Int).toNat) (fun i H' => H' D = some (.lst (natJ ((List.range i).filter (sureP ws m)))) ∧ Same H H') ⟨upd_same, same_upd nD⟩ (fun i H3 hi_ hI => ?_) (fun H3 hI => ?_)
    · obtain ⟨hD, sm⟩ := hI
      rw [Int.toNat_natCast] at hi_
      rw [show ((0 : Int) + (i : Nat)) = (i : Int) by omega]
      obtain ⟨pk, uk, hpk⟩ := wd_at lv (show i < ws.length by omega)
      have hpk := sm _ _ hpk
      have hp3 := sm _ _ hp
      have lf := filt_len (sureP ws m) i
      have no_ : ¬ (hi ws i ≤ m ∧ m < lo ws i + ln ws i) → H3 D = some (.lst (natJ ((List.range (i + 1)).filter (sureP ws m)))) := fun z => by
        rw [filter_range_succ, if_neg (by unfold sureP; simpa using z), List.append_nil]; exact hD
      refine ⟨rfl, _, rfl, _, rfl, pl, us, (i : Int), _, rfl, rfl, sq_lst hp3, atI_nat uk, pk, _, 1, _, rfl, rfl, sq_tup hpk, atI_nat (j := 1) rfl, _, rfl, _, _, rfl, rfl, _, rfl, ite2 (fun c1 => ?_) (fun c1 => ?_)⟩
      · refine ⟨_, rfl, _, rfl, _, rfl, pl, us, (i : Int), _, rfl, rfl, sq_lst hp3, atI_nat uk, pk, _, 0, _, rfl, rfl, sq_tup hpk, atI_nat (j := 0) rfl, _, rfl, _, rfl, pl, us, (i : Int), _, rfl, rfl, sq_lst hp3, atI_nat uk, pk, _, 2, _, rfl, rfl, sq_tup hpk, atI_nat (j := 2) rfl, _, _, rfl, rfl, _, _, rfl, rfl, _, rfl, ite2 (fun c2 => ?_) (fun c2 => ?_)⟩
        · have yes : sureP ws m i = true := decide_eq_true ⟨of_decide_eq_true c1, of_decide_eq_true c2⟩
          refine ⟨_, rfl, _, hD, by rw [natJ_len]; exact small1000 (by omega), ?_, same_at sm nD⟩
          rw [upd_same, filter_range_succ, if_pos yes, natJ_app]; rfl
        · exact ⟨no_ fun z => c2 (decide_eq_true z.2), sm⟩
      · exact ⟨no_ fun z => c1 (decide_eq_true z.1), sm⟩
    · obtain ⟨hD, sm⟩ := hI
      rw [Int.toNat_natCast, lus] at hD
      exact q D _ sm nD hD
end
end M60

namespace M60
open PySem PySem.Spec PyProof.Rows L2 SX Own Gd
open C8 (Cal pe_c pe_gc pe_mk Mak pss_cut)
open M12 (Sn ld net Pos ld_nn cov lb lb_le lb_step lb_nil)
/-- too much from one job's low to another's end -/
def ovP (ws : List Wd) (z : Int) (i j : Nat) : Prop := lo ws i ≤ en ws j ∧ (en ws j - lo ws i) * z < ls (wk ws) (inL ws (lo ws i) (en ws j))
theorem load_ov {ws : List Wd} {z : Int} (ok : WsOk ws z) (z0 : 0 ≤ z) : loadB ws z = true ↔ ∃ i j, i < ws.length ∧ j < ws.length ∧ ovP ws z i j := by
  constructor
  · intro h
    obtain ⟨k, P, a, R, hk, ho, g⟩ := load_iff.mp h
    obtain ⟨c1, c2, c3, c4, c5⟩ := ord_cut ho
    have ha := c4 a (List.mem_append_right _ (List.mem_singleton.mpr rfl))
    have o1 := ok.ord a ha.1; have o2 := ok.len a ha.1
    have e : en ws a = hi ws a + ln ws a := rfl
    refine ⟨k, a, hk, ha.1, by omega, ?_⟩
    rw [Int.mul_comm]
    refine Int.lt_of_lt_of_le g (ls_more c3 (inL_nodup _ _) (fun x hx => (c4 x hx).1) (fun x hx => (inL_mem.mp hx).1) (fun k hk => by have := wk_nn ok hk; omega) fun x hx hm => inL_mem.mpr ⟨hx, (c4 x hm).2, ?_⟩)
    rcases List.mem_append.mp hm with q | q
    · exact c1 x q
    · rw [List.mem_singleton.mp q]; exact Int.le_refl _
  · rintro ⟨i, j, hi_, hj, h1, h2⟩
    refine (load_sym ok z0).mpr ⟨_, _, fun e => ?_, by rw [Int.mul_comm]; exact h2⟩
    rw [e] at h2
    have : 0 ≤ (en ws j - lo ws i) * z := Int.mul_nonneg (by omega) z0
    simp only [ls] at h2
    omega
theorem leafB_of {room : Bool} {ws : List Wd} {z : Int} (h : lateB ws z = true ∨ loadB ws z = true ∨ (room = true ∧ fullB ws z = true)) : leafB room ws z = true := by
  unfold leafB
  rcases h with h | h | ⟨h, g⟩
  · rw [h]; rfl
  · rw [h]; simp
  · rw [h, g]; simp
section
variable {P : Program} {w : World} {K : PySem.W.Frag} {mg : Str → Option Value} {base : Heap} {aW aT : Addr} {es : Array DictEntry} {nn : Nat}
abbrev s_Lshown : Stmt := topS 108
abbrev n_Lshown : List Str := ["windows", "size", "moments", "j", "i", "first", "last", "a", "b", "window", "job"]
theorem sc_Lshown : FnScope n_Lshown ["windows", "size", "moments"] (defScope s_Lshown) := ⟨rfl, rfl, rfl, by decide +kernel, rfl, by decide +kernel, by decide +kernel⟩
def spShL : Sp := fun vs H Q _ => ∃ (v : V) (ws : List Wd) (z : Int) (room : Bool), vs = [v, .int z, .bl room] ∧ LwV H v ws ∧ WsB ws z ∧ ∀ H', Same H H' → Q (.bl (leafB room ws z)) H'
theorem ok_Lshown {f : Addr} {fd : FuncData} (F : Fun K "_law_shown" "_law_shown" s_Lshown f fd) (T : Txt K mg w aW aT es nn) (c_Llate : Cal P w K mg base 1 "_law_late" spLtL []) (c_Lwork : Cal P w K mg base 1 "_law_work" (spWkL K) []) (c_Lwithin : Cal P w K mg base 1 "_law_within" spWiL []) (c_Lsure : Cal P w K mg base 1 "_law_sure" spSuL []) : FnOk P w K mg base CX0 2 f fd ["windows", "size", "moments"] spShL := by
  refine F.ok sc_Lshown (fun vs H Q E h => ?_) (fun cdv A outer s0 H vs Q E hr h => ?_)
  · obtain ⟨v, ws, z, room, rfl, _⟩ := h
    rfl
  · obtain ⟨v, ws, z, room, rfl, ⟨pl, us, rfl, hp, lv⟩, wb, q⟩ := h
    have lus := lv.len
    have few := wb.few
    have z1 := wb.z1; have zb := wb.zb
    refine ⟨_, (pss_cut (ps_for PassesOwn.never rfl (pi_range1 (by rfl) T.b_range (pa_cons (pe_callB call_len_seq (by rfl) T.b_len (by decide +kernel) (pa_cons (pv 0) pa_nil)) pa_nil)) (pg_name (i := 3) sc_Lshown.nd rfl (.inl rfl)) (pss_one (ps_for PassesOwn.never rfl (pi_range1 (by rfl) T.b_range (pa_cons (pv 3) pa_nil)) (pg_name (i := 4) sc_Lshown.nd rfl (.inl rfl)) (pss_one (ps_if (pt_val (pe_c c_Llate hr (by decide) (by rfl) (pa_cons (pv 0) (pa_cons (pv 1) (pa_cons (pv 4) (pa_cons (pv 3) pa_nil)))))) (pss_one (ps_ret pe_bl)) pss_nil)))))
      (pss_cut (ps_for PassesOwn.never rfl (pi_list (pv 0)) (pg_name (i := 5) sc_Lshown.nd rfl (.inl rfl)) (pss_one (ps_for PassesOwn.never rfl (pi_list (pv 0)) (pg_name (i := 6) sc_Lshown.nd rfl (.inl rfl)) (pss_cut (ps_par (i := 7) (j := 8) (by rfl) sc_Lshown.nd rfl rfl (by decide) rfl rfl (pa_cons (pe_ix ix_tup (pv 5) pe_int (fun _ _ => rfl)) (pa_cons (pe_op op_add (pe_ix ix_tup (pv 6) pe_int (fun _ _ => rfl)) (pe_ix ix_tup (pv 6) pe_int (fun _ _ => rfl))) pa_nil)) (by rfl))
          (pss_one (ps_if (PW.pt (pw_and (pt_cmpR op_le (pv 7) (pv 8) (nomark _)) (pw_and1 (pt_cmpR op_gt (pe_c c_Lwork hr (by decide) (by rfl) (pa_cons (pv 0) (pa_cons (pe_c c_Lwithin hr (by decide) (by rfl) (pa_cons (pv 0) (pa_cons (pv 7) (pa_cons (pv 8) pa_nil)))) pa_nil))) (pe_op op_mul (pe_op op_sub (pv 8) (pv 7)) (pv 1)) (nomark _))))) (pss_one (ps_ret pe_bl)) pss_nil))))))
      (pss_cut (ps_for PassesOwn.never rfl (pi_list (pe_ifExp (pt_truth (pv 2) (by intro _; rfl)) (pv 0) (pe_lst pa_nil))) (pg_name (i := 9) sc_Lshown.nd rfl (.inl rfl)) (pss_one (ps_if (pt_cmpR op_gt (pe_callB (cr_sum rfl) (by rfl) T.b_sum (by decide +kernel) (pa_cons (pe_lc (own := [("job", 10)]) rfl sc_Lshown.nd (pi_list (pe_c c_Lsure hr (by decide) (by rfl) (pa_cons (pv 0) (pa_cons (pe_ix ix_tup (pv 9) pe_int (fun _ _ => rfl)) pa_nil)))) (blkOk_by (N := n_Lshown) (sc := defScope s_Lshown) (by decide +kernel)) (fun _ _ _ _ _ => (pg_name (i := 10) sc_Lshown.nd rfl (.inl rfl))) (fun _ _ _ _ _ => pts_nil) (fun _ _ _ _ _ => (pe_ix (r := rIxT K) ix_tup (pe_ix (r := rIxL K) ix_list (pv 0) (pv 10) (fun _ _ => rfl)) pe_int (fun _ _ => rfl)))) pa_nil)) (pv 1) (nomark _)) (pss_one (ps_ret pe_bl)) pss_nil)))
      (pss_one (ps_ret pe_bl))))), ?_⟩
    -- late pairs
    refine ⟨fun σ H' => ∃ y3 y4, σ = [some (.ref pl), some (.int z), some (.bl room), y3, y4, none, none, none, none, none, none] ∧ H = H' ∧ lateB ws z = false, ?_, fun σ H1 hM => ?_⟩
    · refine ⟨_, rfl, pl, us, rfl, .inl (sq_lst hp), us.length, rfl, by omega, by omega, for_range (lo := 0) (n := (us.length : Int).toNat) (fun i σ H' => ∃ y3 y4, σ = [some (.ref pl), some (.int z), some (.bl room), y3, y4, none, none, none, none, none, none] ∧ H = H' ∧ ∀ l, l < i → ∀ j, j < l → ¬ lateP ws z j l)
        ⟨none, none, rfl, rfl, fun l hl => absurd hl (Nat.not_lt_zero _)⟩ (fun i σ H' hi_ hI => ?_) (fun σ H' hI => ?_)⟩
      · obtain ⟨y3, y4, rfl, rfl, no⟩ := hI
        rw [Int.toNat_natCast] at hi_
        refine ⟨_, rfl, _, rfl, by omega, by omega, for_range (lo := 0) (n := ((0 : Int) + (i : Nat)).toNat) (fun j σ H' => ∃ y4, σ = [some (.ref pl), some (.int z), some (.bl room), some (.int (0 + (i : Nat))), y4, none, none, none, none, none, none] ∧ H = H' ∧ ∀ l, l < j → ¬ lateP ws z l i)
          ⟨y4, rfl, rfl, fun l hl => absurd hl (Nat.not_lt_zero _)⟩ (fun j σ H' hj hI => ?_) (fun σ H' hI => ?_)⟩
        · obtain ⟨y4, rfl, rfl, no2⟩ := hI
          have hji : j < i := by omega
          rw [show ((0 : Int) + (i : Nat)) = (i : Int) by omega, show ((0 : Int) + (j : Nat)) = (j : Int) by omega]
          refine ⟨_, rfl, _, rfl, _, rfl, _, rfl, .ref pl, ws, z, j, i, rfl, ⟨pl, us, rfl, hp, lv⟩, by omega, by omega, ?_⟩
          have h0 : lateX ws z j i = true ↔ lateP ws z j i := by unfold lateX; exact decide_eq_true_iff
          refine ⟨_, rfl, ite2 (fun c => ?_) (fun c => ?_)⟩
          · have : leafB room ws z = true := leafB_of (.inl (late_iff.mpr ⟨j, i, hji, by omega, h0.mp c⟩))
            rw [this] at q
            exact q _ (Same.refl _)
          · refine ⟨_, rfl, rfl, fun l hl => ?_⟩
            rcases Nat.lt_or_eq_of_le (Nat.le_of_lt_succ hl) with g | g
            · exact no2 l g
            · rw [g]; exact fun h => c (h0.mpr h)
        · obtain ⟨y4, rfl, rfl, no2⟩ := hI
          refine ⟨_, _, rfl, rfl, fun l hl j hj => ?_⟩
          rcases Nat.lt_or_eq_of_le (Nat.le_of_lt_succ hl) with g | g
          · exact no l g j hj
          · subst g; exact no2 j (by omega)
      · obtain ⟨y3, y4, rfl, rfl, no⟩ := hI
        rw [Int.toNat_natCast] at no
        refine ⟨_, _, rfl, rfl, ?_⟩
        cases lb : lateB ws z with
        | false => rfl
        | true =>
          obtain ⟨j, l, jl, hl, p⟩ := late_iff.mp lb
          exact absurd p (no l (by omega) j jl)
    obtain ⟨y3, y4, rfl, rfl, nlate⟩ := hM
    -- loads
    refine ⟨fun σ H' => ∃ y5 y6 y7 y8, σ = [some (.ref pl), some (.int z), some (.bl room), y3, y4, y5, y6, y7, y8, none, none] ∧ Same H H' ∧ loadB ws z = false, ?_, fun σ H1 hM => ?_⟩
    · refine ⟨_, rfl, pl, rfl, ⟨_, sq_lst hp⟩, for_list (K := K) (a := pl) (xs := us) (fun i σ H' => ∃ y5 y6 y7 y8, σ = [some (.ref pl), some (.int z), some (.bl room), y3, y4, y5, y6, y7, y8, none, none] ∧ Same H H' ∧ ∀ i' j, i' < i → j < ws.length → ¬ ovP ws z i' j) ⟨_, _, _, _, rfl, Same.refl _, fun _ _ h => absurd h (Nat.not_lt_zero _)⟩ (fun i σ H' _ h => by obtain ⟨_, _, _, _, _, sm, _⟩ := h; exact sq_lst (sm _ _ hp)) (fun i v1 σ H1 hv hI => ?_) (fun σ H1 hI => ?_)⟩
      · obtain ⟨y5, y6, y7, y8, rfl, s1, no⟩ := hI
        obtain ⟨d, hd, pd, rfl, hpd⟩ := lv.at_ hv
        have li := (List.getElem?_eq_some_iff.mp hd).1
        refine ⟨_, rfl, pl, rfl, ⟨_, sq_lst (s1 _ _ hp)⟩, for_list (K := K) (a := pl) (xs := us) (fun j σ H' => ∃ y6 y7 y8, σ = [some (.ref pl), some (.int z), some (.bl room), y3, y4, some (.ref pd), y6, y7, y8, none, none] ∧ Same H H' ∧ ∀ j', j' < j → ¬ ovP ws z i j') ⟨_, _, _, rfl, s1, fun _ h => absurd h (Nat.not_lt_zero _)⟩ (fun j σ H' _ h => by obtain ⟨_, _, _, _, sm, _⟩ := h; exact sq_lst (sm _ _ hp)) (fun j v2 σ H2 hv2 hI => ?_) (fun σ H2 hI => ?_)⟩
        · obtain ⟨y6, y7, y8, rfl, s2, no2⟩ := hI
          obtain ⟨d2, hd2, pd2, rfl, hpd2⟩ := lv.at_ hv2
          have lj := (List.getElem?_eq_some_iff.mp hd2).1
          have elo : lo ws i = d.1 := by unfold lo; rw [wd_is hd]
          have een : en ws j = d2.2.1 + d2.2.2.1 := by unfold en M60.hi ln; rw [wd_is hd2]
          refine ⟨fun σ H' => σ = [some (.ref pl), some (.int z), some (.bl room), y3, y4, some (.ref pd), some (.ref pd2), some (.int (lo ws i)), some (.int (en ws j)), none, none] ∧ H2 = H', ?_, fun σ H3 hM => ?_⟩
          · refine ⟨_, rfl, pd, _, 0, _, rfl, rfl, sq_tup (s2 _ _ hpd), atI_nat (j := 0) rfl, ?_⟩
            refine ⟨_, rfl, pd2, _, 1, _, rfl, rfl, sq_tup (s2 _ _ hpd2), atI_nat (j := 1) rfl, _, rfl, pd2, _, 2, _, rfl, rfl, sq_tup (s2 _ _ hpd2), atI_nat (j := 2) rfl, _, _, rfl, rfl, ?_⟩
            rw [elo, een]
            exact ⟨_, _, rfl, rfl, rfl⟩
          obtain ⟨rfl, rfl⟩ := hM
          have next : ¬ ovP ws z i j → ∀ j', j' < j + 1 → ¬ ovP ws z i j' := fun h j' hj' => by
            by_cases e : j' < j
            · exact no2 j' e
            · rw [show j' = j by omega]; exact h
          have lI : (inL ws (lo ws i) (en ws j)).length ≤ 20 := by
            have := List.length_filter_le (fun k => decide (lo ws i ≤ lo ws k ∧ en ws k ≤ en ws j)) (List.range ws.length)
            rw [List.length_range] at this
            exact Nat.le_trans this few
          refine ⟨_, rfl, _, rfl, _, _, rfl, rfl, _, rfl, ite2 (fun c1 => ?_) (fun c1 => ?_)⟩
          · refine ⟨_, rfl, _, rfl, _, rfl, _, rfl, .ref pl, ws, lo ws i, en ws j, rfl, ⟨pl, us, rfl, s2 _ _ hp, wdTk (TK.of s2) lv⟩, few, fun pi H4 s4 npi hpi => ?_⟩
            have s24 := s2.trans s4
            refine ⟨.ref pl, .ref pi, ws, _, rfl, ⟨pl, us, rfl, s24 _ _ hp, wdTk (TK.of s24) lv⟩, ⟨pi, rfl, .inl hpi⟩, fun a ha => ?_, lI, fun H5 s5 => ?_⟩
            · have h1 := (inL_mem.mp ha).1
              have h2 := wb.ok.len a h1; have h3 := wb.lb a h1
              exact ⟨h1, by omega, h3⟩
            refine ⟨_, rfl, _, rfl, _, _, rfl, rfl, _, rfl, _, _, rfl, rfl, .inr ⟨by omega, by omega⟩, _, _, rfl, rfl, _, rfl, ite2 (fun c2 => ?_) (fun c2 => ?_)⟩
            · have : leafB room ws z = true := leafB_of (.inr (.inl ((load_ov wb.ok (by omega)).mpr ⟨i, j, li, lj, of_decide_eq_true c1, of_decide_eq_true c2⟩)))
              rw [this] at q
              exact q _ (s24.trans s5)
            · exact ⟨_, _, _, rfl, s24.trans s5, next fun h => c2 (decide_eq_true h.2)⟩
          · exact ⟨_, _, _, rfl, s2, next fun h => c1 (decide_eq_true h.1)⟩
        · obtain ⟨y6, y7, y8, rfl, s2, no2⟩ := hI
          refine ⟨_, _, _, _, rfl, s2, fun i' j hi' hj => ?_⟩
          by_cases e : i' < i
          · exact no i' j e hj
          · rw [show i' = i by omega]; exact no2 j (by omega)
      · obtain ⟨y5, y6, y7, y8, rfl, s1, no⟩ := hI
        refine ⟨_, _, _, _, rfl, s1, ?_⟩
        cases hl : loadB ws z with
        | false => rfl
        | true =>
          obtain ⟨i, j, hi_, hj, h⟩ := (load_ov wb.ok (by omega)).mp hl
          exact absurd h (no i j (by omega) hj)
    obtain ⟨y5, y6, y7, y8, rfl, s1, nload⟩ := hM
    have hp1 := s1 _ _ hp
    have lv1 := wdTk (TK.of s1) lv
    have eL : leafB room ws z = (room && fullB ws z) := by unfold leafB; rw [nlate, nload]; rfl
    -- moments
    refine ⟨fun σ H' => Same H H' ∧ leafB room ws z = false, ?_, fun σ H2 hM => ?_⟩
    · cases room with
      | false =>
        refine ⟨_, rfl, false, rfl, iteF ?_⟩
        refine ⟨Nat.zero_le _, fun pe npe => ?_⟩
        have kE := same_upd (o := .lst []) npe
        refine ⟨pe, rfl, ⟨[], sq_lst upd_same⟩, for_list (K := K) (a := pe) (xs := []) (fun i σ H' => Same (upd H1 pe (.lst [])) H') (Same.refl _) (fun i σ H' _ h => sq_lst (h _ _ upd_same)) (fun i v1 σ H2 hv hI => by cases hv) (fun σ H2 hI => ?_)⟩
        exact ⟨(s1.trans kE).trans hI, eL⟩
      | true =>
        refine ⟨_, rfl, true, rfl, iteT ?_⟩
        refine ⟨_, rfl, pl, rfl, ⟨_, sq_lst hp1⟩, for_list (K := K) (a := pl) (xs := us) (fun i σ H' => ∃ y9, σ = [some (.ref pl), some (.int z), some (.bl true), y3, y4, y5, y6, y7, y8, y9, none] ∧ Same H1 H' ∧ ∀ i', i' < i → ¬ z < ls (nd ws) (sureL ws (hi ws i'))) ⟨_, rfl, Same.refl _, fun _ h => absurd h (Nat.not_lt_zero _)⟩ (fun i σ H' _ h => by obtain ⟨_, _, sm, _⟩ := h; exact sq_lst (sm _ _ hp1)) (fun i v1 σ H2 hv hI => ?_) (fun σ H2 hI => ?_)⟩
        · obtain ⟨y9, rfl, s2, no⟩ := hI
          obtain ⟨d, hd, pd, rfl, hpd⟩ := lv1.at_ hv
          have li := (List.getElem?_eq_some_iff.mp hd).1
          have ehi : hi ws i = d.2.1 := by unfold M60.hi; rw [wd_is hd]
          refine ⟨_, rfl, _, rfl, pd, _, 1, _, rfl, rfl, sq_tup (s2 _ _ hpd), atI_nat (j := 1) rfl, .ref pl, ws, d.2.1, rfl, ⟨pl, us, rfl, s2 _ _ hp1, wdTk (TK.of s2) lv1⟩, few, fun ps H3 s3 nps hps => ?_⟩
          have s23 := s2.trans s3
          refine ⟨ps, rfl, ⟨_, sq_lst hps⟩, fun D nD => ?_⟩
          have lsu : (sureL ws d.2.1).length ≤ 20 := by
            have := List.length_filter_le (sureP ws d.2.1) (List.range ws.length)
            rw [List.length_range] at this
            exact Nat.le_trans this few
          refine lc_list (K := K) (a := ps) (xs := natJ (sureL ws d.2.1)) (fun m H' => H' D = some (.lst ((((sureL ws d.2.1).take m).map (nd ws)).map V.int)) ∧ Same H3 H') ⟨upd_same, same_upd nD⟩ (fun m H' _ h => sq_lst (h.2 _ _ hps)) ?_ ?_
          · rintro m x H4 hx ⟨hD, sm⟩
            obtain ⟨a, ha, rfl⟩ := natJ_at hx
            have lm := (List.getElem?_eq_some_iff.mp ha).1
            obtain ⟨pk, uk, hpk⟩ := wd_at lv1 (sure_mem.mp (List.mem_of_getElem? ha)).1
            have s4 := s23.trans sm
            refine ⟨rfl, _, rfl, _, rfl, pl, us, (a : Int), _, rfl, rfl, sq_lst (s4 _ _ hp1), atI_nat uk, pk, _, 3, _, rfl, rfl, sq_tup (s4 _ _ hpk), atI_nat (j := 3) rfl, _, hD, by rw [List.length_map, List.length_map, List.length_take]; exact small1000 (by omega), ?_, same_at sm nD⟩
            rw [upd_same, take_one ha, List.map_append, List.map_append]; rfl
          · rintro H4 ⟨hD, sm⟩
            rw [natJ_len, List.take_length] at hD
            refine ⟨D, _, rfl, sq_lst hD, ?_⟩
            rw [lsmap]
            refine ⟨_, rfl, _, _, rfl, rfl, _, rfl, ite2 (fun c => ?_) (fun c => ?_)⟩
            · have : leafB true ws z = true := leafB_of (.inr (.inr ⟨rfl, full_iff.mpr ⟨i, li, by rw [ehi]; exact of_decide_eq_true c⟩⟩))
              rw [this] at q
              exact q _ ((s1.trans s23).trans sm)
            · refine ⟨_, rfl, s23.trans sm, fun i' hi' => ?_⟩
              by_cases e : i' < i
              · exact no i' e
              · rw [show i' = i by omega, ehi]; exact fun h => c (decide_eq_true h)
        · obtain ⟨y9, rfl, s2, no⟩ := hI
          refine ⟨s1.trans s2, ?_⟩
          rw [eL, Bool.true_and]
          cases hf : fullB ws z with
          | false => rfl
          | true =>
            obtain ⟨k, hk, h⟩ := full_iff.mp hf
            exact absurd h (no k (by omega))
    obtain ⟨s2, e⟩ := hM
    rw [e] at q
    exact q _ s2
end
end M60

namespace M60
open PySem PySem.Spec PyProof.Rows L2 SX Own Gd
open C8 (Cal pe_c pe_gc pe_mk Mak pss_cut)
open M12 (Sn ld net Pos ld_nn cov lb lb_le lb_step lb_nil)
theorem all2_set {R : V → Wd → Prop} {v : V} {x : Wd} (h : R v x) : ∀ {vs : List V} {as : List Wd} (k : Nat), All2 R vs as → All2 R (vs.set k v) (as.set k x)
  | _, _, _, .nil => .nil
  | _, _, 0, .cons _ t => .cons h t
  | _, _, k + 1, .cons g t => .cons g (all2_set h k t)
theorem WsB.cg {ws : List Wd} {z a b : Int} {j : Nat} (h : WsB ws z) (hj : j < ws.length) (ab : a ≤ b) : WsB (cg ws j a b) z := by
  refine ⟨cg_ok h.ok hj ab, by rw [cg_len]; exact h.few, fun k hk => ?_, h.z1, h.zb⟩
  rw [cg_len] at hk
  rw [cg_ln hj]
  exact h.lb k hk
theorem cutTo {xs : List V} {i : Nat} (h : i ≤ xs.length) : cutV xs none (some (i : Int)) = xs.take i := by
  unfold cutV
  rw [HT.sIx_nat, HT.sIx_none, Nat.min_eq_left h, List.drop_zero, Nat.sub_zero]
section
variable {P : Program} {w : World} {K : PySem.W.Frag} {mg : Str → Option Value} {base : Heap} {aW aT : Addr} {es : Array DictEntry} {nn : Nat}
abbrev s_Lchanged : Stmt := topS 111
abbrev n_Lchanged : List Str := ["windows", "j", "low", "high"]
theorem sc_Lchanged : FnScope n_Lchanged ["windows", "j", "low", "high"] (defScope s_Lchanged) := ⟨rfl, rfl, rfl, by decide +kernel, rfl, by decide +kernel, by decide +kernel⟩
def spChL : Sp := fun vs H Q _ => ∃ (v : V) (ws : List Wd) (j : Nat) (a b : Int), vs = [v, .int j, .int a, .int b] ∧ LwV H v ws ∧ ws.length ≤ 20 ∧ j < ws.length ∧ ∀ v' H', Same H H' → LwV H' v' (cg ws j a b) → Q v' H'
theorem ok_Lchanged {f : Addr} {fd : FuncData} (F : Fun K "_law_changed" "_law_changed" s_Lchanged f fd) (T : Txt K mg w aW aT es nn) : FnOk P w K mg base CX0 1 f fd ["windows", "j", "low", "high"] spChL := by
  refine F.ok sc_Lchanged (fun vs H Q E h => ?_) (fun cdv A outer s0 H vs Q E hr h => ?_)
  · obtain ⟨v, ws, j, a, b, rfl, _⟩ := h
    rfl
  · obtain ⟨v, ws, j, a, b, rfl, ⟨pl, us, rfl, hp, lv⟩, few, hj, q⟩ := h
    have lus := lv.len
    obtain ⟨pk, uk, hpk⟩ := wd_at lv hj
    refine ⟨_, (pss_one (ps_ret (pe_op op_cat (pe_op op_cat (pe_slice sl_list (pv 0) po_none (po_some (pv 1))) (pe_lst (pa_cons (pe_op op_catA (pe_tup (pa_cons (pv 2) (pa_cons (pv 3) pa_nil))) (pe_slice sl_tupA (pe_ix ix_list (pv 0) (pv 1) (fun _ _ => rfl)) (po_some pe_int) po_none)) pa_nil))) (pe_slice sl_list (pv 0) (po_some (pe_op op_add (pv 1) pe_int)) po_none)))), ?_⟩
    refine ⟨_, rfl, ?_⟩
    unfold tNoPart
    refine ⟨_, rfl, _, rfl, pl, us, rfl, sq_lst hp, fun p1 np1 => ?_⟩
    rw [cutTo (by omega)]
    have k1 := same_upd (o := .lst (us.take j)) np1
    have h1 : upd H p1 (.lst (us.take j)) p1 = some (.lst (us.take j)) := upd_same
    generalize upd H p1 (.lst (us.take j)) = H1 at *
    refine ⟨_, rfl, _, rfl, len2, fun t nt => ?_⟩
    have k2 := same_upd (o := .tup [.int a, .int b]) nt
    have ht : upd H1 t (.tup [.int a, .int b]) t = some (.tup [.int a, .int b]) := upd_same
    generalize upd H1 t (.tup [.int a, .int b]) = H2 at *
    have k12 := k1.trans k2
    refine ⟨_, rfl, _, rfl, pl, us, (j : Int), _, rfl, rfl, sq_lst (k12 _ _ hp), atI_nat uk, _, rfl, ?_⟩
    refine slFrom (a := 1) (k12 _ _ hpk) (by show 1 < 4; decide) fun pr H3 s3 hpr => ?_
    have hpr : H3 pr = some (.tup [.int (ln ws j), .int (nd ws j)]) := hpr
    refine catA (s3 _ _ ht) hpr (by show 2 + 2 ≤ 1000; decide) fun r H4 s4 hr4 => ?_
    have hr4 : H4 r = some (.tup [.int a, .int b, .int (ln ws j), .int (nd ws j)]) := hr4
    refine ⟨len1, fun l1 nl1 => ?_⟩
    have k5 := same_upd (o := .lst [.ref r]) nl1
    have hl1 : upd H4 l1 (.lst [.ref r]) l1 = some (.lst [.ref r]) := upd_same
    generalize upd H4 l1 (.lst [.ref r]) = H5 at *
    have s15 := ((k2.trans s3).trans s4).trans k5
    have lt : (us.take j).length ≤ 20 := by rw [List.length_take]; omega
    refine ⟨p1, l1, _, _, rfl, rfl, s15 _ _ h1, hl1, by rw [sizeLine_eq]; show _ + 1 ≤ _; omega, fun p2 np2 => ?_⟩
    have k6 := same_upd (o := .lst (us.take j ++ [.ref r])) np2
    have h6 : upd H5 p2 (.lst (us.take j ++ [.ref r])) p2 = some (.lst (us.take j ++ [.ref r])) := upd_same
    generalize upd H5 p2 (.lst (us.take j ++ [.ref r])) = H6 at *
    have s06 := (k1.trans s15).trans k6
    refine ⟨_, rfl, _, rfl, _, _, rfl, rfl, _, rfl, pl, us, rfl, sq_lst (s06 _ _ hp), fun p3 np3 => ?_⟩
    have ec : cutV us (some ((j : Int) + 1)) none = us.drop (j + 1) := by
      rw [show ((j : Int) + 1) = ((j + 1 : Nat) : Int) by omega, cut_from (by omega)]
    rw [ec]
    have k7 := same_upd (o := .lst (us.drop (j + 1))) np3
    have h7 : upd H6 p3 (.lst (us.drop (j + 1))) p3 = some (.lst (us.drop (j + 1))) := upd_same
    generalize upd H6 p3 (.lst (us.drop (j + 1))) = H7 at *
    refine ⟨p2, p3, _, _, rfl, rfl, k7 _ _ h6, h7, by rw [List.length_append, List.length_drop, sizeLine_eq]; show _ + 1 + _ ≤ _; omega, fun p4 np4 => ?_⟩
    have k8 := same_upd (o := .lst ((us.take j ++ [.ref r]) ++ us.drop (j + 1))) np4
    have s08 := (s06.trans k7).trans k8
    refine q _ _ s08 ⟨p4, us.set j (.ref r), rfl, by rw [set_cut (by omega)]; exact upd_same, ?_⟩
    unfold cg
    exact all2_set ⟨r, rfl, k8 _ _ (k7 _ _ (k6 _ _ (k5 _ _ hr4)))⟩ j (wdTk (TK.of s08) lv)
abbrev s_Lis_lot : Stmt := topS 109
abbrev n_Lis_lot : List Str := ["value", "many", "at"]
theorem sc_Lis_lot : FnScope n_Lis_lot ["value", "many"] (defScope s_Lis_lot) := ⟨rfl, rfl, rfl, by decide +kernel, rfl, by decide +kernel, by decide +kernel⟩
def spLotL : Sp := fun vs H Q _ => ∃ (p : Addr) (J : List Nat) (n : Nat), vs = [.ref p, .int n] ∧ H p = some (.tup (natJ J)) ∧ J.Pairwise (· < ·) ∧ (∀ a ∈ J, a < n) ∧ J.length ≤ 20 ∧ Q (.bl true) H
theorem ok_Lis_lot {f : Addr} {fd : FuncData} (F : Fun K "_law_is_lot" "_law_is_lot" s_Lis_lot f fd) (T : Txt K mg w aW aT es nn) : FnOk P w K mg base CX0 1 f fd ["value", "many"] spLotL := by
  refine F.ok sc_Lis_lot (fun vs H Q E h => ?_) (fun cdv A outer s0 H vs Q E hr h => ?_)
  · obtain ⟨p, J, n, rfl, _⟩ := h
    rfl
  · obtain ⟨p, J, n, rfl, hp, pw, mem, few, q⟩ := h
    refine ⟨_, (pss_cons (ps_if (pt_not (pt_val (pe_callB call_isE (by rfl) T.b_isinstance (by decide +kernel) (pa_cons (pv 0) (pa_cons (pe_bltn (v := .ty "tuple") (by rfl) T.b_tuple boot_tuple rfl) pa_nil))))) (pss_one (ps_ret pe_bl)) pss_nil)
      (pss_cons (ps_for PassesOwn.never rfl (pi_range1 (by rfl) T.b_range (pa_cons (pe_callB call_len_seq (by rfl) T.b_len (by decide +kernel) (pa_cons (pv 0) pa_nil)) pa_nil)) (pg_name (i := 2) sc_Lis_lot.nd rfl (.inl rfl)) (pss_cons (ps_if (PW.pt (pw_or (pt_not (pt_val (pe_callB call_isE (by rfl) T.b_isinstance (by decide +kernel) (pa_cons (pe_ix ix_tup (pv 0) (pv 2) (fun _ _ => rfl)) (pa_cons (pe_bltn (v := .ty "int") (by rfl) T.b_int boot_int rfl) pa_nil))))) (pw_or (pt_val (pe_callB call_isE (by rfl) T.b_isinstance (by decide +kernel) (pa_cons (pe_ix ix_tup (pv 0) (pv 2) (fun _ _ => rfl)) (pa_cons (pe_bltn (v := .ty "bool") (by rfl) T.b_bool boot_bool rfl) pa_nil)))) (pw_or1 (pt_not (pt_chain op_le op_lt pe_int (pe_ix ix_tup (pv 0) (pv 2) (fun _ _ => rfl)) (pv 1))))))) (pss_one (ps_ret pe_bl)) pss_nil)
        (pss_one (ps_if (PW.pt (pw_and (pt_cmpR op_gt (pv 2) pe_int (nomark _)) (pw_and1 (pt_cmpR op_ge (pe_ix ix_tup (pv 0) (pe_op op_sub (pv 2) pe_int) (fun _ _ => rfl)) (pe_ix ix_tup (pv 0) (pv 2) (fun _ _ => rfl)) (nomark _))))) (pss_one (ps_ret pe_bl)) pss_nil))))
      (pss_one (ps_ret pe_bl)))), ?_⟩
    refine ⟨_, rfl, .ref p, .type "tuple", "tuple", true, rfl, .base (.base (.tup hp)), by rfl, true, rfl, iteF ?_⟩
    refine ⟨_, rfl, p, _, rfl, .inr (sq_tup hp), (natJ J).length, rfl, by rw [natJ_len]; omega, by rw [natJ_len]; omega, for_range (lo := 0) (n := ((natJ J).length : Int).toNat) (fun i σ H' => ∃ y2, σ = [some (.ref p), some (.int n), y2] ∧ H = H') ⟨none, rfl, rfl⟩ (fun i σ H' hi_ hI => ?_) (fun σ H' hI => ?_)⟩
    · obtain ⟨y2, rfl, rfl⟩ := hI
      rw [Int.toNat_natCast, natJ_len] at hi_
      rw [show ((0 : Int) + (i : Nat)) = (i : Int) by omega]
      have ea : ∀ m, (hm : m < J.length) → (natJ J)[m]? = some (.int ((J[m] : Nat) : Int)) := fun m hm => by unfold natJ; rw [List.getElem?_map, List.getElem?_eq_getElem hm]; rfl
      have ma := mem J[i] (List.getElem_mem hi_)
      refine ⟨_, rfl, _, rfl, p, _, (i : Int), _, rfl, rfl, sq_tup hp, atI_nat (ea i hi_), .int ((J[i] : Nat) : Int), .type "int", "int", true, rfl, .base (.base (.int _)), by rfl, true, rfl, iteF ?_⟩
      refine ⟨_, rfl, _, rfl, p, _, (i : Int), _, rfl, rfl, sq_tup hp, atI_nat (ea i hi_), .int ((J[i] : Nat) : Int), .type "int", "bool", false, rfl, .base (.base (.int _)), by rfl, false, rfl, iteF ?_⟩
      refine ⟨_, rfl, _, rfl, p, _, (i : Int), _, rfl, rfl, sq_tup hp, atI_nat (ea i hi_), _, _, rfl, rfl, _, rfl, iteT' (decide_eq_true (by omega)) ?_⟩
      refine ⟨_, rfl, _, _, rfl, rfl, _, rfl, ?_⟩
      have ek : (!decide (((J[i] : Nat) : Int) < (n : Nat))) = false := by rw [decide_eq_true (by omega)]; rfl
      refine iteF' (by intro z; rw [ek] at z; cases z) ?_
      refine ⟨_, rfl, _, _, rfl, rfl, _, rfl, ite2 (fun c => ?_) (fun c => ?_)⟩
      · have c := of_decide_eq_true c
        have hi1 : i - 1 < J.length := by omega
        have lt := List.pairwise_iff_getElem.mp pw (i - 1) i hi1 hi_ (by omega)
        refine ⟨_, rfl, _, rfl, _, _, rfl, rfl, p, _, ((i : Int) - 1), .int ((J[i - 1] : Nat) : Int), rfl, rfl, sq_tup hp, ?_, _, rfl, _, rfl, p, _, (i : Int), _, rfl, rfl, sq_tup hp, atI_nat (ea i hi_), _, _, rfl, rfl, _, rfl, iteF' (fun z => by have z := of_decide_eq_true z; omega) ⟨_, rfl, rfl⟩⟩
        rw [show ((i : Int) - 1) = ((i - 1 : Nat) : Int) by omega]
        exact atI_nat (ea (i - 1) hi1)
      · exact iteF' (by decide) ⟨_, rfl, rfl⟩
    · obtain ⟨y2, rfl, rfl⟩ := hI
      exact q
abbrev s_Lfarthest : Stmt := topS 112
abbrev n_Lfarthest : List Str := ["windows", "size", "j", "moments", "low", "high", "length", "need", "up", "down", "value"]
theorem sc_Lfarthest : FnScope n_Lfarthest ["windows", "size", "j", "moments"] (defScope s_Lfarthest) := ⟨rfl, rfl, rfl, by decide +kernel, rfl, by decide +kernel, by decide +kernel⟩
def opI : Option Int → V
  | some s => .int s
  | none => .non
def upI (ws : List Wd) (z : Int) (room : Bool) (j : Nat) (i : Nat) : Option Int := match mxO (startC room ws z j) with
  | some s => if hi ws j - i < s then some s else none
  | none => none
def dnI (ws : List Wd) (z : Int) (room : Bool) (j : Nat) (i : Nat) : Option Int := match mxO (startC room (bw ws) z j) with
  | some s => if -s - ln ws j < lo ws j + i then some (-s - ln ws j) else none
  | none => none
def spFaL : Sp := fun vs H Q _ => ∃ (v : V) (ws : List Wd) (z : Int) (j : Nat) (room : Bool), vs = [v, .int z, .int j, .bl room] ∧ LwV H v ws ∧ WsB ws z ∧ j < ws.length ∧ leafB room ws z = false ∧ -1000000 ≤ lo ws j ∧ hi ws j ≤ 1000000 ∧ ∀ p H', Same H H' → H' p = some (.tup [opI (upI ws z room j (hi ws j - lo ws j).toNat), opI (dnI ws z room j (hi ws j - lo ws j).toNat)]) → Q (.ref p) H'
theorem ok_Lfarthest {f : Addr} {fd : FuncData} (F : Fun K "_law_farthest" "_law_farthest" s_Lfarthest f fd) (T : Txt K mg w aW aT es nn) (c_Lshown : Cal P w K mg base 2 "_law_shown" spShL []) (c_Lchanged : Cal P w K mg base 1 "_law_changed" spChL []) : FnOk P w K mg base CX0 3 f fd ["windows", "size", "j", "moments"] spFaL := by
  refine F.ok sc_Lfarthest (fun vs H Q E h => ?_) (fun cdv A outer s0 H vs Q E hr h => ?_)
  · obtain ⟨v, ws, z, j, room, rfl, _⟩ := h
    rfl
  · obtain ⟨v, ws, z, j, room, rfl, lw, wb, hj, nl, b1, b2, q⟩ := h
    obtain ⟨pl, us, rfl, hp, lv⟩ := id lw
    have few := wb.few
    have z1 := wb.z1
    have ord := wb.ok.ord j hj
    obtain ⟨pk, uk, hpk⟩ := wd_at lv hj
    generalize hN : (hi ws j - lo ws j).toNat = N at *
    have eN : (N : Int) = hi ws j - lo ws j := by omega
    refine ⟨_, (pss_cons (ps_asg (pe_ix ix_list (pv 0) (pv 2) (fun _ _ => rfl)) (pg_tup rfl (pgs_cons (pg_name (i := 4) sc_Lfarthest.nd rfl (.inl rfl)) (pgs_cons (pg_name (i := 5) sc_Lfarthest.nd rfl (.inl rfl)) (pgs_cons (pg_name (i := 6) sc_Lfarthest.nd rfl (.inl rfl)) (pgs_cons (pg_name (i := 7) sc_Lfarthest.nd rfl (.inl rfl)) pgs_nil))))))
      (pss_cut (ps_asg (pe_tup (pa_cons pe_non (pa_cons pe_non pa_nil))) (pg_tup rfl (pgs_cons (pg_name (i := 8) sc_Lfarthest.nd rfl (.inl rfl)) (pgs_cons (pg_name (i := 9) sc_Lfarthest.nd rfl (.inl rfl)) pgs_nil))))
      (pss_cut (ps_for PassesOwn.never rfl (pi_range3 (by rfl) T.b_range (pa_cons (pv 5) (pa_cons (pv 4) (pa_cons (pe_op op_sub pe_int pe_int) pa_nil)))) (pg_name (i := 10) sc_Lfarthest.nd rfl (.inl rfl)) (pss_one (ps_if (PW.pt (pw_and (pt_cmpR op_isN (pv 8) pe_non (nomark _)) (pw_and1 (pt_val (pe_c c_Lshown hr (by decide) (by rfl) (pa_cons (pe_c c_Lchanged hr (by decide) (by rfl) (pa_cons (pv 0) (pa_cons (pv 2) (pa_cons (pv 4) (pa_cons (pe_op op_sub (pv 10) pe_int) pa_nil))))) (pa_cons (pv 1) (pa_cons (pv 3) pa_nil)))))))) (pss_one (ps_set (i := 8) sc_Lfarthest.nd rfl (.inl rfl) (pv 10))) pss_nil)))
      (pss_cut (ps_for PassesOwn.never rfl (pi_range2 (by rfl) T.b_range (pa_cons (pv 4) (pa_cons (pv 5) pa_nil))) (pg_name (i := 10) sc_Lfarthest.nd rfl (.inl rfl)) (pss_one (ps_if (PW.pt (pw_and (pt_cmpR op_isN (pv 9) pe_non (nomark _)) (pw_and1 (pt_val (pe_c c_Lshown hr (by decide) (by rfl) (pa_cons (pe_c c_Lchanged hr (by decide) (by rfl) (pa_cons (pv 0) (pa_cons (pv 2) (pa_cons (pe_op op_add (pv 10) pe_int) (pa_cons (pv 5) pa_nil))))) (pa_cons (pv 1) (pa_cons (pv 3) pa_nil)))))))) (pss_one (ps_set (i := 9) sc_Lfarthest.nd rfl (.inl rfl) (pv 10))) pss_nil)))
      (pss_one (ps_ret (pe_tup (pa_cons (pv 8) (pa_cons (pv 9) pa_nil))))))))), ?_⟩
    refine ⟨_, rfl, _, rfl, pl, us, (j : Int), _, rfl, rfl, sq_lst hp, atI_nat uk, pk, _, rfl, sq_tup hpk, rfl, _, _, rfl, _, _, rfl, _, _, rfl, _, _, rfl, rfl, ?_⟩
    refine ⟨fun σ H' => σ = [some (.ref pl), some (.int z), some (.int (j : Nat)), some (.bl room), some (.int (lo ws j)), some (.int (hi ws j)), some (.int (ln ws j)), some (.int (nd ws j)), some .non, some .non, none] ∧ Same H H', ?_, fun σ H1 hM => ?_⟩
    · refine ⟨len2, fun t nt => ?_⟩
      exact ⟨t, _, rfl, sq_tup upd_same, rfl, _, _, rfl, _, _, rfl, rfl, rfl, same_upd nt⟩
    obtain ⟨rfl, s1⟩ := hM
    refine ⟨fun σ H' => ∃ y10, σ = [some (.ref pl), some (.int z), some (.int (j : Nat)), some (.bl room), some (.int (lo ws j)), some (.int (hi ws j)), some (.int (ln ws j)), some (.int (nd ws j)), some (opI (upI ws z room j N)), some .non, y10] ∧ Same H H', ?_, fun σ H2 hM => ?_⟩
    · have rg : RgC (hi ws j) (lo ws j) (0 - 1) N := by
        have := RgC.neg (i := hi ws j) (j := lo ws j) (by omega) (by omega) (by omega) (by omega)
        rw [hN] at this; exact this
      refine ⟨_, rfl, _, rfl, _, _, rfl, rfl, hi ws j, lo ws j, 0 - 1, N, rfl, rg, for_rangeC (fun i σ H' => ∃ y10, σ = [some (.ref pl), some (.int z), some (.int (j : Nat)), some (.bl room), some (.int (lo ws j)), some (.int (hi ws j)), some (.int (ln ws j)), some (.int (nd ws j)), some (opI (upI ws z room j i)), some .non, y10] ∧ Same H H') ⟨none, ?_, s1⟩ (fun i σ H2 hi_ hI => ?_) (fun σ H2 hI => hI)⟩
      · have : upI ws z room j 0 = none := by
          unfold upI
          cases e : mxO (startC room ws z j) with
          | none => rfl
          | some s =>
            have mx := mxO_is (startC room ws z j)
            rw [e] at mx
            have := start_hi wb.ok (by omega) room nl hj mx.1
            show (if _ then _ else _) = none
            rw [if_neg (by omega)]
        rw [this]; rfl
      · obtain ⟨y10, rfl, s2⟩ := hI
        have ev : hi ws j + (i : Nat) * (0 - 1) = hi ws j - (i : Nat) := by omega
        rw [ev]
        cases eu : upI ws z room j i with
        | some s =>
          have e2 : upI ws z room j (i + 1) = some s := by
            unfold upI at eu ⊢
            cases e : mxO (startC room ws z j) with
            | none => rw [e] at eu; cases eu
            | some s' =>
              rw [e] at eu
              have eu : (if hi ws j - i < s' then some s' else none) = some s := eu
              show (if hi ws j - ((i + 1 : Nat) : Int) < s' then some s' else none) = some s
              by_cases g : hi ws j - i < s'
              · rw [if_pos g] at eu; rw [if_pos (by omega)]; exact eu
              · rw [if_neg g] at eu; cases eu
          refine ⟨_, rfl, rfl, _, rfl, iteF' (by rw [show decide (opI (some s) = V.non) = false from decide_eq_false (fun h => by cases h)]; intro h; cases h) ?_⟩
          refine iteF' (by decide) ?_
          exact ⟨_, by rw [e2]; rfl, s2⟩
        | none =>
          refine ⟨_, rfl, rfl, _, rfl, iteT' (decide_eq_true rfl) ?_⟩
          refine ⟨_, rfl, _, rfl, _, rfl, _, rfl, _, _, rfl, rfl, .ref pl, ws, j, lo ws j, hi ws j - (i : Nat) - 1, rfl, lw.tk s2, few, hj, fun v' H3 s3 lw3 => ?_⟩
          refine ⟨_, rfl, _, rfl, v', cg ws j (lo ws j) (hi ws j - (i : Nat) - 1), z, room, rfl, lw3, wb.cg hj (by omega), fun H4 s4 => ?_⟩
          have sh := shown_iff wb.ok (by omega) room nl hj (v := hi ws j - (i : Nat)) (by omega) (by omega)
          have s24 := (s2.trans s3).trans s4
          refine ⟨_, rfl, ite2 (fun c => ?_) (fun c => ?_)⟩
          · obtain ⟨s, es, g⟩ := sh.mp c
            have e2 : upI ws z room j (i + 1) = some (hi ws j - (i : Nat)) := by
              unfold upI at eu ⊢
              rw [es] at eu ⊢
              have eu : (if hi ws j - i < s then some s else none) = none := eu
              have g2 : ¬ hi ws j - i < s := fun h => by rw [if_pos h] at eu; cases eu
              have : s = hi ws j - (i : Nat) := by omega
              show (if hi ws j - ((i + 1 : Nat) : Int) < s then some s else none) = _
              rw [if_pos (by omega), this]
            exact ⟨_, rfl, _, by rw [e2]; rfl, s24⟩
          · have e2 : upI ws z room j (i + 1) = none := by
              unfold upI at eu ⊢
              cases e : mxO (startC room ws z j) with
              | none => rfl
              | some s' =>
                show (if hi ws j - ((i + 1 : Nat) : Int) < s' then some s' else none) = none
                rw [if_neg]
                intro h
                exact c (sh.mpr ⟨s', e, by omega⟩)
            exact ⟨_, by rw [e2]; rfl, s24⟩
    obtain ⟨y10, rfl, s2⟩ := hM
    refine ⟨fun σ H' => ∃ y10, σ = [some (.ref pl), some (.int z), some (.int (j : Nat)), some (.bl room), some (.int (lo ws j)), some (.int (hi ws j)), some (.int (ln ws j)), some (.int (nd ws j)), some (opI (upI ws z room j N)), some (opI (dnI ws z room j N)), y10] ∧ Same H H', ?_, fun σ H3 hM => ?_⟩
    · refine ⟨_, rfl, _, rfl, _, _, rfl, ⟨by omega, by omega, by omega, by omega⟩, for_range (lo := lo ws j) (n := (hi ws j - lo ws j).toNat) (fun i σ H' => ∃ y10, σ = [some (.ref pl), some (.int z), some (.int (j : Nat)), some (.bl room), some (.int (lo ws j)), some (.int (hi ws j)), some (.int (ln ws j)), some (.int (nd ws j)), some (opI (upI ws z room j N)), some (opI (dnI ws z room j i)), y10] ∧ Same H H') ⟨y10, ?_, s2⟩ (fun i σ H2 hi_ hI => ?_) (fun σ H2 hI => by rw [hN] at hI; exact hI)⟩
      · have : dnI ws z room j 0 = none := by
          unfold dnI
          cases e : mxO (startC room (bw ws) z j) with
          | none => rfl
          | some s =>
            have mx := mxO_is (startC room (bw ws) z j)
            rw [e] at mx
            have g := start_hi (bw_ok wb.ok) (by omega) room (by rw [leaf_bw wb.ok (by omega)]; exact nl) (by rw [bw_len]; exact hj) mx.1
            rw [bw_hi hj] at g
            show (if _ then _ else _) = none
            rw [if_neg (by omega)]
        rw [this]; rfl
      · obtain ⟨y10, rfl, s2⟩ := hI
        rw [hN] at hi_
        cases eu : dnI ws z room j i with
        | some s =>
          have e2 : dnI ws z room j (i + 1) = some s := by
            unfold dnI at eu ⊢
            cases e : mxO (startC room (bw ws) z j) with
            | none => rw [e] at eu; cases eu
            | some s' =>
              rw [e] at eu
              have eu : (if -s' - ln ws j < lo ws j + i then some (-s' - ln ws j) else none) = some s := eu
              show (if -s' - ln ws j < lo ws j + ((i + 1 : Nat) : Int) then some (-s' - ln ws j) else none) = some s
              by_cases g : -s' - ln ws j < lo ws j + i
              · rw [if_pos g] at eu; rw [if_pos (by omega)]; exact eu
              · rw [if_neg g] at eu; cases eu
          refine ⟨_, rfl, rfl, _, rfl, iteF' (by rw [show decide (opI (some s) = V.non) = false from decide_eq_false (fun h => by cases h)]; intro h; cases h) ?_⟩
          refine iteF' (by decide) ?_
          exact ⟨_, by rw [e2]; rfl, s2⟩
        | none =>
          refine ⟨_, rfl, rfl, _, rfl, iteT' (decide_eq_true rfl) ?_⟩
          refine ⟨_, rfl, _, rfl, _, rfl, _, _, rfl, rfl, _, rfl, .ref pl, ws, j, lo ws j + (i : Nat) + 1, hi ws j, rfl, lw.tk s2, few, hj, fun v' H3 s3 lw3 => ?_⟩
          refine ⟨_, rfl, _, rfl, v', cg ws j (lo ws j + (i : Nat) + 1) (hi ws j), z, room, rfl, lw3, wb.cg hj (by omega), fun H4 s4 => ?_⟩
          have sh := shown_iff2 wb.ok (by omega) room nl hj (v := lo ws j + (i : Nat)) (by omega) (by omega)
          have s24 := (s2.trans s3).trans s4
          refine ⟨_, rfl, ite2 (fun c => ?_) (fun c => ?_)⟩
          · obtain ⟨s, es, g⟩ := sh.mp c
            have e2 : dnI ws z room j (i + 1) = some (lo ws j + (i : Nat)) := by
              unfold dnI at eu ⊢
              rw [es] at eu ⊢
              have eu : (if -s - ln ws j < lo ws j + i then some (-s - ln ws j) else none) = none := eu
              have g2 : ¬ -s - ln ws j < lo ws j + i := fun h => by rw [if_pos h] at eu; cases eu
              have : -s - ln ws j = lo ws j + (i : Nat) := by omega
              show (if -s - ln ws j < lo ws j + ((i + 1 : Nat) : Int) then some (-s - ln ws j) else none) = _
              rw [if_pos (by omega), this]
            exact ⟨_, rfl, _, by rw [e2]; rfl, s24⟩
          · have e2 : dnI ws z room j (i + 1) = none := by
              unfold dnI at eu ⊢
              cases e : mxO (startC room (bw ws) z j) with
              | none => rfl
              | some s' =>
                show (if -s' - ln ws j < lo ws j + ((i + 1 : Nat) : Int) then some (-s' - ln ws j) else none) = none
                rw [if_neg]
                intro h
                exact c (sh.mpr ⟨s', e, by omega⟩)
            exact ⟨_, by rw [e2]; rfl, s24⟩
    obtain ⟨y10, rfl, s3⟩ := hM
    refine ⟨_, rfl, _, rfl, len2, fun t nt => ?_⟩
    exact q t _ (s3.trans (same_upd nt)) upd_same
end
end M60

namespace M60
open PySem PySem.Spec PyProof.Rows L2 SX Own Gd
open C8 (Cal pe_c pe_gc pe_mk Mak pss_cut)
open M12 (Sn ld net Pos ld_nn cov lb lb_le lb_step lb_nil)
section
variable {P : Program} {w : World} {K : PySem.W.Frag} {mg : Str → Option Value} {base : Heap} {aW aT : Addr} {es : Array DictEntry} {nn : Nat}
abbrev s_Lwindows : Stmt := topS 103
abbrev n_Lwindows : List Str := ["wish", "box", "place", "length", "need"]
theorem sc_Lwindows : FnScope n_Lwindows ["wish", "box"] (defScope s_Lwindows) := ⟨rfl, rfl, rfl, by decide +kernel, rfl, by decide +kernel, by decide +kernel⟩
def spLWin : Sp := fun vs H Q _ => ∃ (v b : V) (n : Nat) (x : Wish) (bx : Bx), vs = [v, b] ∧ WV H v x ∧ x.isJ = true ∧ WishOk n x ∧ BxV H b bx ∧ bx.length = n ∧ ∀ p v' H', Same H H' → H' p = some (.tup [v', .int x.size]) → LwV H' v' (wsOf x.jobs bx) → Q (.ref p) H'
theorem ok_Lwindows {f : Addr} {fd : FuncData} (F : Fun K "_law_windows" "_law_windows" s_Lwindows f fd) (T : Txt K mg w aW aT es nn) : FnOk P w K mg base CX0 1 f fd ["wish", "box"] spLWin := by
  refine F.ok sc_Lwindows (fun vs H Q E h => ?_) (fun cdv A outer s0 H vs Q E hr h => ?_)
  · obtain ⟨v, b, n, x, bx, rfl, _⟩ := h
    rfl
  · obtain ⟨v, b, n, x, bx, rfl, wv, hJ, ok, ⟨pb, bs, rfl, hpb, bv⟩, bl, q⟩ := h
    have wj := ok.wj hJ
    have few := wj.few
    refine ⟨_, (pss_cons (ps_if (pt_cmpR op_eq (pe_ix ix_tup (pv 0) pe_int (fun _ _ => rfl)) pe_str (nomark _)) (pss_one (ps_ret (pe_tup (pa_cons (pe_lc (own := [("place", 2), ("length", 3)]) (g := (gTup K 2 (gCons (gName 2) (gCons (gName 3) gNil)))) rfl sc_Lwindows.nd (pi_tup (pe_ix ix_tup (pv 0) pe_int (fun _ _ => rfl))) (blkOk_by (N := n_Lwindows) (sc := defScope s_Lwindows) (by decide +kernel)) (fun _ _ _ _ _ => (pg_tup rfl (pgs_cons (pg_name (i := 2) sc_Lwindows.nd rfl (.inl rfl)) (pgs_cons (pg_name (i := 3) sc_Lwindows.nd rfl (.inl rfl)) pgs_nil)))) (fun _ _ _ _ _ => pts_nil) (fun _ _ _ _ _ => (pe_op (r := rCatA K) op_catA (pe_ix (r := rIxT K) ix_tup (pv 1) (pv 2) (fun _ _ => rfl)) (pe_tup (pa_cons (pv 3) (pa_cons pe_int pa_nil)))))) (pa_cons pe_int pa_nil))))) pss_nil)
      (pss_one (ps_ret (pe_tup (pa_cons (pe_lc (own := [("place", 2), ("length", 3), ("need", 4)]) (g := (gTup K 3 (gCons (gName 2) (gCons (gName 3) (gCons (gName 4) gNil))))) rfl sc_Lwindows.nd (pi_tup (pe_ix ix_tup (pv 0) pe_int (fun _ _ => rfl))) (blkOk_by (N := n_Lwindows) (sc := defScope s_Lwindows) (by decide +kernel)) (fun _ _ _ _ _ => (pg_tup rfl (pgs_cons (pg_name (i := 2) sc_Lwindows.nd rfl (.inl rfl)) (pgs_cons (pg_name (i := 3) sc_Lwindows.nd rfl (.inl rfl)) (pgs_cons (pg_name (i := 4) sc_Lwindows.nd rfl (.inl rfl)) pgs_nil))))) (fun _ _ _ _ _ => pts_nil) (fun _ _ _ _ _ => (pe_op (r := rCatA K) op_catA (pe_ix (r := rIxT K) ix_tup (pv 1) (pv 2) (fun _ _ => rfl)) (pe_tup (pa_cons (pv 3) (pa_cons (pv 4) pa_nil)))))) (pa_cons (pe_ix ix_tup (pv 0) pe_int (fun _ _ => rfl)) pa_nil)))))), ?_⟩
    have box : ∀ j ∈ x.jobs, ∃ pr, bs[j.1]? = some (.ref pr) ∧ H pr = some (.tup [.int (bxAt bx j.1).1, .int (bxAt bx j.1).2]) := fun j mj => by
      have pl := wj.ok.pl j mj
      obtain ⟨vb, hba, pr, rfl, hpr⟩ := bv.at2 (List.getElem?_eq_getElem (by omega : j.1 < bx.length))
      have ebx : bx[j.1]'(by omega) = bxAt bx j.1 := by unfold bxAt; rw [List.getD_eq_getElem?_getD, List.getElem?_eq_getElem]; rfl
      rw [ebx] at hpr
      exact ⟨pr, hba, hpr⟩
    have cat : ∀ (H2 : Hp) (pr t : Addr) (a b c d : Int) (R : VK), H2 pr = some (.tup [.int a, .int b]) → H2 t = some (.tup [.int c, .int d]) → (∀ p, H2 p = none → R (.ref p) (upd H2 p (.tup [.int a, .int b, .int c, .int d]))) → rCatA K (.ref pr) (.ref t) H2 R := fun H2 pr t a b c d R h1 h2 h => ⟨pr, t, _, _, rfl, rfl, sq_tup h1, sq_tup h2, by rw [sizeLine_eq]; show 4 ≤ _; omega, (fun e => by cases e), (fun _ e => by cases e), fun _ _ p np => h p np⟩
    cases x with
    | unlike a => cases hJ
    | bench js =>
      obtain ⟨p, pj, us, rfl, hp, hpj, lv⟩ := wv
      have ok : WJ n 1 js := ok
      have few2 := ok.few
      refine ⟨_, rfl, p, _, 0, _, rfl, rfl, sq_tup hp, rfl, rfl, _, rfl, iteT ?_⟩
      refine ⟨_, rfl, p, _, 1, _, rfl, rfl, sq_tup hp, rfl, pj, rfl, ⟨_, sq_tup hpj⟩, fun D nD => ?_⟩
      refine lc_tup (K := K) (a := pj) (xs := us) (fun i H' => ∃ vs, H' D = some (.lst vs) ∧ All2 (WdV H') vs (wsOf (js.take i) bx) ∧ Same H H') ⟨[], upd_same, .nil, same_upd nD⟩ (fun i H' _ h => by obtain ⟨_, _, _, sm⟩ := h; exact sq_tup (sm _ _ hpj)) ?_ ?_
      · rintro i y H2 hx ⟨vs, hD, fv, sm⟩
        obtain ⟨j, hj, pj', rfl, hpj'⟩ := lv.at_ hx
        have li : i < js.length := (List.getElem?_eq_some_iff.mp hj).1
        have mj := List.mem_of_getElem? hj
        obtain ⟨pr, hba, hpr⟩ := box j mj
        have e1 : j.2.2 = 1 := by have := ok.ok.nd1 j mj; have := ok.ok.ndz j mj; omega
        refine ⟨pj', _, rfl, sq_tup (sm _ _ hpj'), rfl, _, _, rfl, _, _, rfl, rfl, rfl, ?_⟩
        refine ⟨_, rfl, _, rfl, pb, _, _, _, rfl, rfl, sq_tup (sm _ _ hpb), atI_nat hba, _, rfl, len2, fun t nt => ?_⟩
        have k3 := same_upd (o := .tup [.int j.2.1, .int 1]) nt
        refine cat _ pr t _ _ _ _ _ (k3 _ _ (sm _ _ hpr)) upd_same fun t2 nt2 => ?_
        have k4 := same_upd (o := .tup [.int (bxAt bx j.1).1, .int (bxAt bx j.1).2, .int j.2.1, .int 1]) nt2
        have hD4 := k4 _ _ (k3 _ _ hD)
        have lvs : vs.length = i := by rw [fv.len, ws_len, List.length_take]; omega
        refine ⟨_, hD4, small1000 (by omega), vs ++ [.ref t2], upd_same, ?_, same_at ((sm.trans k3).trans k4) nD⟩
        rw [take_one hj]
        unfold wsOf at fv ⊢
        rw [List.map_append]
        refine wdTk (TK.put hD4) ((wdTk (TK.of (k3.trans k4)) fv).app ⟨t2, rfl, ?_⟩)
        show _ = some (HO.tup [.int (bxAt bx j.1).1, .int (bxAt bx j.1).2, .int j.2.1, .int j.2.2])
        rw [e1]; exact upd_same
      · rintro H2 ⟨vs, hD, fv, sm⟩
        rw [lv.len, List.take_length] at fv
        refine ⟨len2, fun t nt => ?_⟩
        have k3 := same_upd (o := .tup [.ref D, .int 1]) nt
        exact q t (.ref D) _ (sm.trans k3) upd_same ⟨D, vs, rfl, k3 _ _ hD, wdTk (TK.of k3) fv⟩
    | room js z =>
      obtain ⟨p, pj, us, rfl, hp, hpj, lv⟩ := wv
      have ok : WJ n z js := ok
      have few2 := ok.few
      refine ⟨_, rfl, p, _, 0, _, rfl, rfl, sq_tup hp, rfl, rfl, _, rfl, iteF ?_⟩
      refine ⟨_, rfl, p, _, 1, _, rfl, rfl, sq_tup hp, rfl, pj, rfl, ⟨_, sq_tup hpj⟩, fun D nD => ?_⟩
      refine lc_tup (K := K) (a := pj) (xs := us) (fun i H' => ∃ vs, H' D = some (.lst vs) ∧ All2 (WdV H') vs (wsOf (js.take i) bx) ∧ Same H H') ⟨[], upd_same, .nil, same_upd nD⟩ (fun i H' _ h => by obtain ⟨_, _, _, sm⟩ := h; exact sq_tup (sm _ _ hpj)) ?_ ?_
      · rintro i y H2 hx ⟨vs, hD, fv, sm⟩
        obtain ⟨j, hj, pj', rfl, hpj'⟩ := lv.at_ hx
        have li : i < js.length := (List.getElem?_eq_some_iff.mp hj).1
        have mj := List.mem_of_getElem? hj
        obtain ⟨pr, hba, hpr⟩ := box j mj
        refine ⟨pj', _, rfl, sq_tup (sm _ _ hpj'), rfl, _, _, rfl, _, _, rfl, _, _, rfl, rfl, rfl, ?_⟩
        refine ⟨_, rfl, _, rfl, pb, _, _, _, rfl, rfl, sq_tup (sm _ _ hpb), atI_nat hba, _, rfl, _, rfl, len2, fun t nt => ?_⟩
        have k3 := same_upd (o := .tup [.int j.2.1, .int j.2.2]) nt
        refine cat _ pr t _ _ _ _ _ (k3 _ _ (sm _ _ hpr)) upd_same fun t2 nt2 => ?_
        have k4 := same_upd (o := .tup [.int (bxAt bx j.1).1, .int (bxAt bx j.1).2, .int j.2.1, .int j.2.2]) nt2
        have hD4 := k4 _ _ (k3 _ _ hD)
        have lvs : vs.length = i := by rw [fv.len, ws_len, List.length_take]; omega
        refine ⟨_, hD4, small1000 (by omega), vs ++ [.ref t2], upd_same, ?_, same_at ((sm.trans k3).trans k4) nD⟩
        rw [take_one hj]
        unfold wsOf at fv ⊢
        rw [List.map_append]
        exact wdTk (TK.put hD4) ((wdTk (TK.of (k3.trans k4)) fv).app ⟨t2, rfl, upd_same⟩)
      · rintro H2 ⟨vs, hD, fv, sm⟩
        rw [lv.len, List.take_length] at fv
        refine ⟨_, rfl, p, _, 2, _, rfl, rfl, sq_tup (sm _ _ hp), rfl, len2, fun t nt => ?_⟩
        have k3 := same_upd (o := .tup [.ref D, .int z]) nt
        exact q t (.ref D) _ (sm.trans k3) upd_same ⟨D, vs, rfl, k3 _ _ hD, wdTk (TK.of k3) fv⟩
end
end M60

namespace M60
open PySem PySem.Spec PyProof.Rows L2 SX Own Gd
open C8 (Cal pe_c pe_gc pe_mk Mak pss_cut)
open M12 (Sn ld net Pos ld_nn cov lb lb_le lb_step lb_nil)
theorem natJ_inc : ∀ {l : List Nat}, l.Pairwise (· < ·) → Inc (natI l) := fun {l} h i x y hx hy => by
  unfold natI at hx hy
  rw [List.getElem?_map] at hx hy
  obtain ⟨a, ha, rfl⟩ := Option.map_eq_some_iff.mp hx
  obtain ⟨b, hb, rfl⟩ := Option.map_eq_some_iff.mp hy
  obtain ⟨h1, e1⟩ := List.getElem?_eq_some_iff.mp ha
  obtain ⟨h2, e2⟩ := List.getElem?_eq_some_iff.mp hb
  have := List.pairwise_iff_getElem.mp h i (i + 1) h1 h2 (by omega)
  rw [e1, e2] at this
  omega
/-- a load names two jobs at least -/
theorem load_two {ws : List Wd} {z f l : Int} {J : List Nat} (ok : WsOk ws z) (z0 : 0 ≤ z) (h : LfOk ws z (.load J f l)) : 2 ≤ J.length := by
  obtain ⟨pw, mem, fl, h⟩ := h
  have nn : 0 ≤ z * (l - f) := Int.mul_nonneg z0 (by omega)
  match J, pw, mem, h with
  | [], _, _, h => simp only [ls] at h; omega
  | [a], _, mem, h =>
    obtain ⟨a1, a2, a3⟩ := mem a (List.mem_singleton.mpr rfl)
    have o1 := ok.ord a a1; have o2 := ok.len a a1; have o3 := ok.ndz a a1; have o4 := ok.nd1 a a1
    have ee : en ws a = hi ws a + ln ws a := rfl
    simp only [ls] at h
    have : wk ws a ≤ z * (l - f) := by
      unfold wk
      rw [Int.mul_comm z]
      exact Int.mul_le_mul (by omega) o3 (by omega) (by omega)
    omega
  | a :: b :: r, _, _, _ => simp
theorem ls_one : ∀ l : List Nat, ls (fun _ => 1) l = l.length
  | [] => rfl
  | a :: r => by
    show (1 : Int) + ls (fun _ => 1) r = ((r.length + 1 : Nat) : Int)
    rw [ls_one r]; omega
theorem pw_len {J : List Nat} {n : Nat} (pw : J.Pairwise (· < ·)) (mem : ∀ a ∈ J, a < n) : J.length ≤ n := by
  have := ls_more (f := fun _ => 1) (n := n) (pw_nodup pw) List.nodup_range mem (fun k hk => List.mem_range.mp hk) (fun k hk => by decide) fun k _ hm => List.mem_range.mpr (mem k hm)
  rw [ls_one, ls_one, List.length_range] at this
  omega
section
variable {P : Program} {w : World} {K : PySem.W.Frag} {mg : Str → Option Value} {base : Heap} {aW aT : Addr} {es : Array DictEntry} {nn : Nat}
abbrev s_load_holds : Stmt := topS 91
abbrev n_load_holds : List Str := ["task", "box", "value", "_", "k", "jobs", "first", "last", "windows", "chosen", "job", "window"]
theorem sc_load_holds : FnScope n_load_holds ["task", "box", "value"] (defScope s_load_holds) := ⟨rfl, rfl, rfl, by decide +kernel, rfl, by decide +kernel, by decide +kernel⟩
def spLdH (C : Addr) : Sp := fun vs H Q _ => ∃ (v b : V) (k n : Nat) (x : Wish) (bx : Bx) (px j : Addr) (J : List Nat) (f l : Int), vs = [v, b, .ref px] ∧ TwB C H v b k n x bx ∧ BxOk bx ∧ H px = some (.tup [.str "load", .int k, .ref j, .int f, .int l]) ∧ H j = some (.tup (natJ J)) ∧ LfOk (wsOf x.jobs bx) x.size (.load J f l) ∧ ∀ H', Same H H' → Q (.bl true) H'
theorem ok_load_holds {f C : Addr} {fd : FuncData} (F : Fun K "_load_holds" "_load_holds" s_load_holds f fd) (T : Txt K mg w aW aT es nn) (cc : CC K C) (c_job_windows : Cal P w K mg base 2 "job_windows" (spWin C) []) (c_is_integers : Cal P w K mg base 2 "is_integers" spInts []) (c_is_lot_of_places : Cal P w K mg base 3 "is_lot_of_places" spLot []) (c_end_of : Cal P w K mg base 1 "end_of" spEnd []) (c_work_of : Cal P w K mg base 1 "work_of" spWork []) (c_size_of : Cal P w K mg base 1 "size_of" spSize []) : FnOk P w K mg base CX0 5 f fd ["task", "box", "value"] (spLdH C) := by
  refine F.ok sc_load_holds (fun vs H Q E h => ?_) (fun cdv A outer s0 H vs Q E hr h => ?_)
  · obtain ⟨v, b, k, n, x, bx, px, j, J, f, l, rfl, _⟩ := h
    rfl
  · obtain ⟨v, b, k, n, y, bx, px, pj, J, f, l, rfl, tw, bo, hpx, hpj, lfo, q⟩ := h
    have wj := tw.ok.wj tw.j
    have wb := wsb_of wj bo tw.bl
    have few := wb.few
    have z1 := wb.z1; have zb := wb.zb
    have lw := ws_len y.jobs bx
    have two := load_two wb.ok (by omega) lfo
    obtain ⟨incJ, mem, fl, big⟩ := lfo
    have lwl : J.length ≤ 20 := Nat.le_trans (pw_len incJ fun a ha => (mem a ha).1) few
    have hpj : H pj = some (tI (natI J)) := by
      rw [hpj]; show _ = some (HO.tup ((natI J).map V.int))
      unfold natJ natI; rw [List.map_map]; rfl
    generalize hW : wsOf y.jobs bx = ws at *
    refine ⟨_, (pss_cut (ps_asg (pv 2) (pg_tup rfl (pgs_cons (pg_name (i := 3) sc_load_holds.nd rfl (.inl rfl)) (pgs_cons (pg_name (i := 4) sc_load_holds.nd rfl (.inl rfl)) (pgs_cons (pg_name (i := 5) sc_load_holds.nd rfl (.inl rfl)) (pgs_cons (pg_name (i := 6) sc_load_holds.nd rfl (.inr rfl)) (pgs_cons (pg_name (i := 7) sc_load_holds.nd rfl (.inr rfl)) pgs_nil)))))))
      (pss_cut (ps_set (i := 8) sc_load_holds.nd rfl (.inr rfl) (pe_c c_job_windows hr (by decide) (by rfl) (pa_cons (pv 0) (pa_cons (pv 4) (pa_cons (pv 1) pa_nil)))))
      (pss_cut (ps_if (PW.pt (pw_or (pt_not (pt_val (pe_c c_is_integers hr (by decide) (by rfl) (pa_cons (pe_tup (pa_cons (pv 6) (pa_cons (pv 7) pa_nil))) (pa_cons pe_int pa_nil))))) (pw_or (pt_cmpR op_gt (pv 6) (pv 7) (nomark _)) (pw_or1 (pt_not (pt_val (pe_c c_is_lot_of_places hr (by decide) (by rfl) (pa_cons (pv 5) (pa_cons (pe_callB call_len_seq (by rfl) T.b_len (by decide +kernel) (pa_cons (pv 8) pa_nil)) pa_nil))))))))) (pss_one (ps_ret pe_bl)) pss_nil)
      (pss_cut (ps_setLc (i := 9) (own := [("job", 10)]) rfl sc_load_holds.nd rfl rfl (sw_true rfl rfl rfl (by decide +kernel)) (pi_tup (pv 5)) (blkOk_by (N := n_load_holds) (sc := defScope s_load_holds) (by decide +kernel)) (fun _ _ _ _ _ => (pg_name (i := 10) sc_load_holds.nd rfl (.inl rfl))) (fun _ _ _ _ _ => pts_nil) (fun _ _ _ _ _ => (pe_ix (r := rIxT K) ix_tup (pv 8) (pv 10) (fun _ _ => rfl))))
      (pss_cut (ps_if (pt_val (pe_callB (cr_any rfl) (by rfl) T.b_any (by decide +kernel) (pa_cons (pe_lc (own := [("window", 11)]) rfl sc_load_holds.nd (pi_list (pv 9)) (blkOk_by (N := n_load_holds) (sc := defScope s_load_holds) (by decide +kernel)) (fun _ _ _ _ _ => (pg_name (i := 11) sc_load_holds.nd rfl (.inl rfl))) (fun _ _ _ _ _ => pts_nil) (fun _ _ _ _ _ => (pe_or (pe_cmpR op_lt (pe_ix (r := rIxT K) ix_tup (pv 11) pe_int (fun _ _ => rfl)) (pv 6) (nomark _)) (pe_one (pe_cmpR op_gt (pe_c c_end_of hr (by decide) (by rfl) (pa_cons (pv 11) pa_nil)) (pv 7) (nomark _)))))) pa_nil))) (pss_one (ps_ret pe_bl)) pss_nil)
      (pss_one (ps_ret (pe_cmpR op_gt (pe_callB (cr_sum rfl) (by rfl) T.b_sum (by decide +kernel) (pa_cons (pe_lc (own := [("window", 11)]) rfl sc_load_holds.nd (pi_list (pv 9)) (blkOk_by (N := n_load_holds) (sc := defScope s_load_holds) (by decide +kernel)) (fun _ _ _ _ _ => (pg_name (i := 11) sc_load_holds.nd rfl (.inl rfl))) (fun _ _ _ _ _ => pts_nil) (fun _ _ _ _ _ => (pe_c c_work_of hr (by decide) (by rfl) (pa_cons (pv 11) pa_nil)))) pa_nil)) (pe_op op_mul (pe_c c_size_of hr (by decide) (by rfl) (pa_cons (pe_ix ix_tup (pe_fld (pv 0) (by rfl)) (pv 4) (fun _ _ => rfl)) pa_nil)) (pe_op op_sub (pv 7) (pv 6))) (nomark _))))))))), ?_⟩
    refine ⟨fun σ H' => σ = [some v, some b, some (.ref px), some (.str "load"), some (.int (k : Nat)), some (.ref pj), some (.int f), some (.int l), none, none, none, none] ∧ H = H', ?_, fun σ H1 hM => ?_⟩
    · exact ⟨_, rfl, px, _, rfl, sq_tup hpx, rfl, _, _, rfl, _, _, rfl, _, _, rfl, _, _, rfl, _, _, rfl, rfl, rfl, rfl⟩
    obtain ⟨rfl, rfl⟩ := hM
    refine ⟨fun σ H' => ∃ (pw : Addr) (us : List V), σ = [some v, some b, some (.ref px), some (.str "load"), some (.int (k : Nat)), some (.ref pj), some (.int f), some (.int l), some (.ref pw), none, none, none] ∧ Same H H' ∧ H' pw = some (.tup us) ∧ All2 (WdV H') us ws, ?_, fun σ H1 hM => ?_⟩
    · refine ⟨_, rfl, _, rfl, _, rfl, v, b, k, n, y, bx, rfl, tw, fun p us H1 s1 hp lv => ?_⟩
      rw [hW] at lv
      exact ⟨p, us, rfl, s1, hp, lv⟩
    obtain ⟨pw, us, rfl, s1, hpw, lv⟩ := hM
    have lus := lv.len
    refine ⟨fun σ H' => σ = [some v, some b, some (.ref px), some (.str "load"), some (.int (k : Nat)), some (.ref pj), some (.int f), some (.int l), some (.ref pw), none, none, none] ∧ Same H1 H', ?_, fun σ H2 hM => ?_⟩
    · have hpj1 := s1 _ _ hpj
      refine ⟨_, rfl, _, rfl, len2, fun t nt => ?_⟩
      have st := same_upd (o := .tup [.int f, .int l]) nt
      refine ⟨.ref t, [f, l], rfl, ⟨t, rfl, upd_same⟩, by show 2 ≤ 1000; decide, fun H2 s2 => ⟨_, rfl, iteF' (by decide) ?_⟩⟩
      have s12 := st.trans s2
      refine ⟨_, rfl, _, rfl, _, _, rfl, rfl, _, rfl, iteF' (fun z => by have := of_decide_eq_true z; omega) ?_⟩
      refine ⟨_, rfl, _, rfl, pw, us, rfl, .inr (sq_tup (s12 _ _ hpw)), ?_⟩
      refine ⟨.ref pj, us.length, natI J, rfl, ⟨pj, rfl, s12 _ _ hpj1⟩, fun c hc => ?_, natJ_inc incJ, by rw [natI_len]; exact two, by rw [natI_len]; omega, fun H3 s3 => ⟨_, rfl, iteF' (by decide) ⟨rfl, s12.trans s3⟩⟩⟩
      unfold natI at hc
      obtain ⟨a, ha, rfl⟩ := List.mem_map.mp hc
      have := (mem a ha).1
      omega
    obtain ⟨rfl, s2⟩ := hM
    refine ⟨fun σ H' => ∃ (pc : Addr) (cs : List V), σ = [some v, some b, some (.ref px), some (.str "load"), some (.int (k : Nat)), some (.ref pj), some (.int f), some (.int l), some (.ref pw), some (.ref pc), none, none] ∧ Same H2 H' ∧ H' pc = some (.lst cs) ∧ All2 (WdV H') cs (J.map (gW ws)), ?_, fun σ H3 hM => ?_⟩
    · have hpj2 := s2 _ _ (s1 _ _ hpj)
      have lv2 := wdTk (TK.of s2) lv
      have hpw2 := s2 _ _ hpw
      refine ⟨_, rfl, pj, rfl, ⟨_, sq_tup hpj2⟩, fun D nD => ?_⟩
      refine lc_tup (K := K) (a := pj) (xs := (natI J).map V.int) (fun m H' => ∃ cs, H' D = some (.lst cs) ∧ All2 (WdV H') cs ((J.take m).map (gW ws)) ∧ Same H2 H') ⟨[], upd_same, .nil, same_upd nD⟩ (fun m H' _ h => by obtain ⟨_, _, _, sm⟩ := h; exact sq_tup (sm _ _ hpj2)) ?_ ?_
      · rintro m x H3 hx ⟨cs, hD, cv, sm⟩
        obtain ⟨a, ha, rfl⟩ := nat_at hx
        obtain ⟨pk, uk, hpk⟩ := wd_at lv2 (mem a (List.mem_of_getElem? ha)).1
        have li := (List.getElem?_eq_some_iff.mp ha).1
        have lcs := cv.len
        rw [List.length_map, List.length_take] at lcs
        refine ⟨rfl, _, rfl, _, rfl, pw, us, (a : Int), _, rfl, rfl, sq_tup (sm _ _ hpw2), atI_nat uk, _, hD, small1000 (by omega), cs ++ [.ref pk], upd_same, ?_, same_at sm nD⟩
        rw [take_one ha, List.map_append]
        have kb := TK.put (o := .lst (cs ++ [.ref pk])) hD
        exact (wdTk kb cv).app ⟨pk, rfl, kb _ _ (sm _ _ hpk)⟩
      · rintro H3 ⟨cs, hD, cv, sm⟩
        rw [List.length_map, natI_len, List.take_length] at cv
        exact ⟨D, cs, rfl, sm, hD, cv⟩
    obtain ⟨pc, cs, rfl, s3, hpc, cv⟩ := hM
    have s03 := (s1.trans s2).trans s3
    refine ⟨fun σ H' => σ = [some v, some b, some (.ref px), some (.str "load"), some (.int (k : Nat)), some (.ref pj), some (.int f), some (.int l), some (.ref pw), some (.ref pc), none, none] ∧ Same H3 H', ?_, fun σ H4 hM => ?_⟩
    · have lcs := cv.len
      rw [List.length_map] at lcs
      refine ⟨_, rfl, pc, rfl, ⟨_, sq_lst hpc⟩, fun D nD => ?_⟩
      refine lc_list (K := K) (a := pc) (xs := cs) (fun m H' => H' D = some (.lst ((List.replicate m false).map V.bl)) ∧ Same H3 H') ⟨upd_same, same_upd nD⟩ (fun m H' _ h => sq_lst (h.2 _ _ hpc)) ?_ ?_
      · rintro m x H4 hx ⟨hD, sm⟩
        obtain ⟨c, hc, pk, rfl, hpk⟩ := cv.at_ hx
        rw [List.getElem?_map] at hc
        obtain ⟨a, ha, rfl⟩ := Option.map_eq_some_iff.mp hc
        have lm := (List.getElem?_eq_some_iff.mp ha).1
        obtain ⟨m1, m2, m3⟩ := mem a (List.mem_of_getElem? ha)
        have hpk := sm _ _ hpk
        have e1 : lo ws a = (gW ws a).1 := rfl
        have e2 : en ws a = (gW ws a).2.1 + (gW ws a).2.2.1 := rfl
        refine ⟨rfl, _, rfl, pk, _, 0, _, rfl, rfl, sq_tup hpk, atI_nat (show (V.int (gW ws a).1 :: _)[0]? = some (V.int (gW ws a).1) from rfl), _, rfl, _, _, rfl, rfl, _, rfl, iteF' (fun z => by have := of_decide_eq_true z; omega) ?_⟩
        refine ⟨_, rfl, .ref pk, gW ws a, rfl, ⟨pk, rfl, hpk⟩, _, rfl, _, _, rfl, rfl, _, hD, by rw [List.length_map, List.length_replicate]; exact small1000 (by omega), ?_, same_at sm nD⟩
        rw [upd_same, List.replicate_succ', List.map_append]
        show some (HO.lst (_ ++ [V.bl (decide (l < (gW ws a).2.1 + (gW ws a).2.2.1))])) = _
        rw [decide_eq_false (by omega)]; rfl
      · rintro H4 ⟨hD, sm⟩
        refine ⟨D, _, rfl, sq_lst hD, ?_⟩
        exact ⟨_, rfl, iteF' (by rw [List.any_eq_true]; rintro ⟨b, hb, e⟩; rw [List.eq_of_mem_replicate hb] at e; cases e) ⟨rfl, sm⟩⟩
    obtain ⟨rfl, s4⟩ := hM
    have lcs := cv.len
    rw [List.length_map] at lcs
    have hpc4 := s4 _ _ hpc
    have cv4 := wdTk (TK.of s4) cv
    refine ⟨_, rfl, pc, rfl, ⟨_, sq_lst hpc4⟩, fun D nD => ?_⟩
    refine lc_list (K := K) (a := pc) (xs := cs) (fun m H' => H' D = some (.lst (((J.take m).map (wk ws)).map V.int)) ∧ Same H4 H') ⟨upd_same, same_upd nD⟩ (fun m H' _ h => sq_lst (h.2 _ _ hpc4)) ?_ ?_
    · rintro m x H5 hx ⟨hD, sm⟩
      obtain ⟨c, hc, pk, rfl, hpk⟩ := cv4.at_ hx
      rw [List.getElem?_map] at hc
      obtain ⟨a, ha, rfl⟩ := Option.map_eq_some_iff.mp hc
      have lm := (List.getElem?_eq_some_iff.mp ha).1
      have m1 := (mem a (List.mem_of_getElem? ha)).1
      have l1 := wb.ok.len a m1; have l2 := wb.lb a m1
      have hpk := sm _ _ hpk
      have e1 : ln ws a = (gW ws a).2.2.1 := rfl
      refine ⟨rfl, _, rfl, .ref pk, gW ws a, rfl, ⟨pk, rfl, hpk⟩, ⟨by omega, by omega⟩, _, hD, by rw [List.length_map, List.length_map, List.length_take]; exact small1000 (by omega), ?_, same_at sm nD⟩
      rw [upd_same, take_one ha, List.map_append, List.map_append]; rfl
    · rintro H5 ⟨hD, sm⟩
      rw [lcs, List.take_length] at hD
      refine ⟨D, _, rfl, sq_lst hD, ?_⟩
      rw [ls_map]
      have s05 := (s03.trans s4).trans sm
      obtain ⟨ul, wl, goal, ⟨x, dx, pu, pw', pg', us', ws', rfl, hx, hpu, uv, hpw', wv, hpg⟩, hk, en_⟩ := tw.tv
      obtain ⟨vw, hwk, wvk⟩ := wv.at2 hk
      refine ⟨_, rfl, x, C, dx, _, _, rfl, s05 _ _ hx, cc.cl, cc.nw, lk_w _ _ _, _, rfl, pw', _, _, _, rfl, rfl, sq_tup (s05 _ _ hpw'), atI_nat hwk, ?_⟩
      refine ⟨vw, y, rfl, wvk.same s05, tw.j, ?_⟩
      refine ⟨_, rfl, _, rfl, _, _, rfl, rfl, _, _, rfl, rfl, .inl ⟨by omega, by omega⟩, _, _, rfl, rfl, ?_⟩
      show Q (V.bl (decide (y.size * (l - f) < ls (wk ws) J))) H5
      rw [decide_eq_true big]
      exact q _ s05
abbrev s_late_holds : Stmt := topS 90
abbrev n_late_holds : List Str := ["task", "box", "value", "_", "k", "job", "later", "windows", "one", "other"]
theorem sc_late_holds : FnScope n_late_holds ["task", "box", "value"] (defScope s_late_holds) := ⟨rfl, rfl, rfl, by decide +kernel, rfl, by decide +kernel, by decide +kernel⟩
def spLtH (C : Addr) : Sp := fun vs H Q _ => ∃ (v b : V) (k n : Nat) (x : Wish) (bx : Bx) (px : Addr) (i o : Nat), vs = [v, b, .ref px] ∧ TwB C H v b k n x bx ∧ BxOk bx ∧ H px = some (.tup [.str "late", .int k, .int (i : Int), .int (o : Int)]) ∧ LfOk (wsOf x.jobs bx) x.size (.late i o) ∧ ∀ H', Same H H' → Q (.bl true) H'
theorem ok_late_holds {f C : Addr} {fd : FuncData} (F : Fun K "_late_holds" "_late_holds" s_late_holds f fd) (T : Txt K mg w aW aT es nn) (cc : CC K C) (c_job_windows : Cal P w K mg base 2 "job_windows" (spWin C) []) (c_is_lot_of_places : Cal P w K mg base 3 "is_lot_of_places" spLot []) (c_size_of : Cal P w K mg base 1 "size_of" spSize []) : FnOk P w K mg base CX0 4 f fd ["task", "box", "value"] (spLtH C) := by
  refine F.ok sc_late_holds (fun vs H Q E h => ?_) (fun cdv A outer s0 H vs Q E hr h => ?_)
  · obtain ⟨v, b, k, n, x, bx, px, i, o, rfl, _⟩ := h
    rfl
  · obtain ⟨v, b, k, n, y, bx, px, i, o, rfl, tw, bo, hpx, ⟨io, ol, c1, c2, c3⟩, q⟩ := h
    have wj := tw.ok.wj tw.j
    have wb := wsb_of wj bo tw.bl
    have few := wb.few
    generalize hW : wsOf y.jobs bx = ws at *
    refine ⟨_, (pss_cons (ps_asg (pv 2) (pg_tup rfl (pgs_cons (pg_name (i := 3) sc_late_holds.nd rfl (.inl rfl)) (pgs_cons (pg_name (i := 4) sc_late_holds.nd rfl (.inl rfl)) (pgs_cons (pg_name (i := 5) sc_late_holds.nd rfl (.inl rfl)) (pgs_cons (pg_name (i := 6) sc_late_holds.nd rfl (.inl rfl)) pgs_nil))))))
      (pss_cut (ps_set (i := 7) sc_late_holds.nd rfl (.inl rfl) (pe_c c_job_windows hr (by decide) (by rfl) (pa_cons (pv 0) (pa_cons (pv 4) (pa_cons (pv 1) pa_nil)))))
      (pss_cut (ps_if (pt_not (pt_val (pe_c c_is_lot_of_places hr (by decide) (by rfl) (pa_cons (pe_tup (pa_cons (pv 5) (pa_cons (pv 6) pa_nil))) (pa_cons (pe_callB call_len_seq (by rfl) T.b_len (by decide +kernel) (pa_cons (pv 7) pa_nil)) pa_nil))))) (pss_one (ps_ret pe_bl)) pss_nil)
      (pss_cons (ps_par (i := 8) (j := 9) (by rfl) sc_late_holds.nd rfl rfl (by decide) rfl rfl (pa_cons (pe_ix ix_tup (pv 7) (pv 5) (fun _ _ => rfl)) (pa_cons (pe_ix ix_tup (pv 7) (pv 6) (fun _ _ => rfl)) pa_nil)) (by rfl))
      (pss_cons (ps_if (pt_cmpR op_le (pe_op op_add (pe_ix ix_tup (pv 8) pe_int (fun _ _ => rfl)) (pe_ix ix_tup (pv 9) pe_int (fun _ _ => rfl))) (pe_c c_size_of hr (by decide) (by rfl) (pa_cons (pe_ix ix_tup (pe_fld (pv 0) (by rfl)) (pv 4) (fun _ _ => rfl)) pa_nil)) (nomark _)) (pss_one (ps_ret pe_bl)) pss_nil)
      (pss_one (ps_ret (pe_and (pe_cmpR op_gt (pe_op op_add (pe_ix ix_tup (pv 8) pe_int (fun _ _ => rfl)) (pe_ix ix_tup (pv 8) pe_int (fun _ _ => rfl))) (pe_ix ix_tup (pv 9) pe_int (fun _ _ => rfl)) (nomark _)) (pe_one (pe_cmpR op_gt (pe_op op_add (pe_ix ix_tup (pv 9) pe_int (fun _ _ => rfl)) (pe_ix ix_tup (pv 9) pe_int (fun _ _ => rfl))) (pe_ix ix_tup (pv 8) pe_int (fun _ _ => rfl)) (nomark _))))))))))), ?_⟩
    have zo := tw.ok.wj tw.j
    refine ⟨_, rfl, px, _, rfl, sq_tup hpx, rfl, _, _, rfl, _, _, rfl, _, _, rfl, _, _, rfl, rfl, ?_⟩
    refine ⟨fun σ H' => ∃ (pw : Addr) (us : List V), σ = [some v, some b, some (.ref px), some (.str "late"), some (.int (k : Nat)), some (.int (i : Nat)), some (.int (o : Nat)), some (.ref pw), none, none] ∧ Same H H' ∧ H' pw = some (.tup us) ∧ All2 (WdV H') us ws, ?_, fun σ H1 hM => ?_⟩
    · refine ⟨_, rfl, _, rfl, _, rfl, v, b, k, n, y, bx, rfl, tw, fun p us H1 s1 hp lv => ?_⟩
      rw [hW] at lv
      exact ⟨p, us, rfl, s1, hp, lv⟩
    obtain ⟨pw, us, rfl, s1, hpw, lv⟩ := hM
    have lus := lv.len
    obtain ⟨p1, u1, hp1⟩ := wd_at lv (show i < ws.length by omega)
    obtain ⟨p2, u2, hp2⟩ := wd_at lv ol
    refine ⟨fun σ H' => σ = [some v, some b, some (.ref px), some (.str "late"), some (.int (k : Nat)), some (.int (i : Nat)), some (.int (o : Nat)), some (.ref pw), none, none] ∧ Same H1 H', ?_, fun σ H2 hM => ?_⟩
    · refine ⟨_, rfl, _, rfl, len2, fun t nt => ?_⟩
      have st := same_upd (o := .tup [.int (i : Int), .int (o : Int)]) nt
      refine ⟨_, rfl, pw, us, rfl, .inr (sq_tup (st _ _ hpw)), .ref t, us.length, [(i : Int), (o : Int)], rfl, ⟨t, rfl, upd_same⟩, fun c hc => ?_, fun a x y hx hy => ?_, Nat.le_refl _, by show 2 ≤ 1000; decide, fun H2 s2 => ⟨_, rfl, iteF' (by decide) ⟨rfl, st.trans s2⟩⟩⟩
      · simp only [List.mem_cons, List.mem_nil_iff, or_false] at hc
        omega
      · match a, hx, hy with
        | 0, hx, hy => cases hx; cases hy; omega
        | a + 1, hx, hy => simp at hy
    obtain ⟨rfl, s2⟩ := hM
    have hpw2 := s2 _ _ hpw; have hp1 := s2 _ _ hp1; have hp2 := s2 _ _ hp2
    refine ⟨_, rfl, _, rfl, pw, us, (i : Int), _, rfl, rfl, sq_tup hpw2, atI_nat u1, _, rfl, _, rfl, pw, us, (o : Int), _, rfl, rfl, sq_tup hpw2, atI_nat u2, ?_⟩
    refine ⟨_, _, rfl, ?_⟩
    obtain ⟨ul, wl, goal, ⟨x, dx, pu, pw', pg', us', ws', rfl, hx, hpu, uv, hpw', wv, hpg⟩, hk, en_⟩ := tw.tv
    obtain ⟨vw, hwk, wvk⟩ := wv.at2 hk
    have s12 := s1.trans s2
    refine ⟨_, rfl, p1, _, 3, _, rfl, rfl, sq_tup hp1, atI_nat (j := 3) rfl, _, rfl, p2, _, 3, _, rfl, rfl, sq_tup hp2, atI_nat (j := 3) rfl, _, _, rfl, rfl, ?_⟩
    refine ⟨_, rfl, x, C, dx, _, _, rfl, s12 _ _ hx, cc.cl, cc.nw, lk_w _ _ _, _, rfl, pw', _, _, _, rfl, rfl, sq_tup (s12 _ _ hpw'), atI_nat hwk, ?_⟩
    refine ⟨vw, y, rfl, wvk.same s12, tw.j, ?_⟩
    refine ⟨_, _, rfl, rfl, _, rfl, iteF' (fun z => by have := of_decide_eq_true z; omega) ?_⟩
    refine ⟨_, rfl, p1, _, 0, _, rfl, rfl, sq_tup hp1, atI_nat (j := 0) rfl, _, rfl, p1, _, 2, _, rfl, rfl, sq_tup hp1, atI_nat (j := 2) rfl, _, _, rfl, rfl, _, rfl, p2, _, 1, _, rfl, rfl, sq_tup hp2, atI_nat (j := 1) rfl, _, _, rfl, rfl, _, rfl, iteT' (decide_eq_true c2) ?_⟩
    refine ⟨_, rfl, p2, _, 0, _, rfl, rfl, sq_tup hp2, atI_nat (j := 0) rfl, _, rfl, p2, _, 2, _, rfl, rfl, sq_tup hp2, atI_nat (j := 2) rfl, _, _, rfl, rfl, _, rfl, p1, _, 1, _, rfl, rfl, sq_tup hp1, atI_nat (j := 1) rfl, _, _, rfl, rfl, ?_⟩
    show Q (V.bl (decide (hi ws i < lo ws o + ln ws o))) H2
    rw [decide_eq_true c3]
    exact q _ s12
end
end M60

namespace M60
open PySem PySem.Spec PyProof.Rows L2 SX Own Gd
open C8 (Cal pe_c pe_gc pe_mk Mak pss_cut)
open M12 (Sn ld net Pos ld_nn cov lb lb_le lb_step lb_nil)
/-- an expression that is never reached -/
theorem pe_no {X : Cx} {e : Expr} : PE X e (fun _ _ _ => False) := ⟨fun _ _ _ _ _ _ h => h.elim⟩
def lfNm : Lf → Str
  | .late _ _ => "late"
  | .load _ _ _ => "load"
  | .full _ _ => "full"
def lfN : Lf → Nat
  | .late _ _ => 4
  | .load _ _ _ => 5
  | .full _ _ => 4
/-- what the leaf's own test is given -/
def spLfT (C : Addr) (nm : Str) : Sp := fun vs H Q _ => ∃ (v b : V) (k n : Nat) (x : Wish) (bx : Bx) (px : Addr) (L : Lf), vs = [v, b, .ref px] ∧ lfNm L = nm ∧ TwB C H v b k n x bx ∧ BxOk bx ∧ LfV k H (.ref px) L ∧ LfOk (wsOf x.jobs bx) x.size L ∧ ∀ H', Same H H' → Q (.bl true) H'
structure LfE (P : Program) (w : World) (K : PySem.W.Frag) (mg : Str → Option Value) (base : Heap) (C aL aI aK : Addr) (nm : Str) (n : Int) (aQ fL : Addr) : Prop where
  t : KDct K w aL nm (.ref fL)
  i : KDct K w aI nm (.int n)
  k : KDct K w aK nm (.ref aQ)
  q : ∀ H, SqT K H aQ ([.str "bench", .str "room"] : List V)
  h : Held P w K mg base 5 fL (spLfT C nm)
structure LfT (P : Program) (w : World) (K : PySem.W.Frag) (mg : Str → Option Value) (base : Heap) (C aL aI aK : Addr) (es : Array DictEntry) (nn : Nat) : Prop where
  c_T : ∃ u, mg "LEAF_TESTS" = some u ∧ RelV (.ref aL) u
  c_I : ∃ u, mg "LEAF_ITEMS" = some u ∧ RelV (.ref aI) u
  c_K : ∃ u, mg "LEAF_KINDS" = some u ∧ RelV (.ref aK) u
  kd : KDict K w aL es nn
  late : ∃ aQ fL, LfE P w K mg base C aL aI aK "late" 4 aQ fL
  load : ∃ aQ fL, LfE P w K mg base C aL aI aK "load" 5 aQ fL
section
variable {P : Program} {w : World} {K : PySem.W.Frag} {mg : Str → Option Value} {base : Heap} {aW aT : Addr} {es : Array DictEntry} {nn : Nat}
theorem lf_in (L : Lf) : inV (V.str (lfNm L)) [V.str "worth", V.str "none"] = false := by
  cases L with
  | late i o => show inV (V.str "late") _ = false; decide +kernel
  | load J f l => show inV (V.str "load") _ = false; decide +kernel
  | full J m => show inV (V.str "full") _ = false; decide +kernel
theorem LfT.get {P : Program} {w : World} {K : PySem.W.Frag} {mg : Str → Option Value} {base : Heap} {C aL aI aK : Addr} {es : Array DictEntry} {nn : Nat} (S : LfT P w K mg base C aL aI aK es nn) (L : Lf) (hr : lfRoom L = false) : ∃ aQ fL, LfE P w K mg base C aL aI aK (lfNm L) (lfN L) aQ fL := by
  cases L with
  | late i o => exact S.late
  | load J f l => exact S.load
  | full J m => cases hr
theorem lfV_get {k : Int} {H : Hp} {v : V} {L : Lf} (h : LfV k H v L) : ∃ p us, v = .ref p ∧ H p = some (.tup (.str (lfNm L) :: .int k :: us)) ∧ us.length + 2 = lfN L := by
  cases L with
  | late i o => obtain ⟨p, e, h⟩ := h; exact ⟨p, _, e, h, rfl⟩
  | load J f l => obtain ⟨p, j, e, h, g⟩ := h; exact ⟨p, _, e, h, rfl⟩
  | full J m => obtain ⟨p, j, e, h, g⟩ := h; exact ⟨p, _, e, h, rfl⟩
abbrev s_leaf_holds : Stmt := topS 84
abbrev n_leaf_holds : List Str := ["task", "cuts", "box", "value", "worth", "test"]
theorem sc_leaf_holds : FnScope n_leaf_holds ["task", "cuts", "box", "value", "worth"] (defScope s_leaf_holds) := ⟨rfl, rfl, rfl, by decide +kernel, rfl, by decide +kernel, by decide +kernel⟩
def spLfH (C : Addr) : Sp := fun vs H Q _ => ∃ (v c b q : V) (k n : Nat) (x : Wish) (bx : Bx) (L : Lf), vs = [v, c, b, q, .non] ∧ TwB C H v b k n x bx ∧ BxOk bx ∧ LfV k H q L ∧ LfOk (wsOf x.jobs bx) x.size L ∧ lfRoom L = false ∧ ∀ H', Same H H' → Q (.bl true) H'
theorem ok_leaf_holds {f C aL aI aK : Addr} {fd : FuncData} {es2 : Array DictEntry} {nn2 : Nat} (F : Fun K "leaf_holds" "leaf_holds" s_leaf_holds f fd) (T : Txt K mg w aW aT es nn) (cc : CC K C) (S : LfT P w K mg base C aL aI aK es2 nn2) (c_is_whole : Cal P w K mg base 1 "is_whole" spWhole []) : FnOk P w K mg base CX0 6 f fd ["task", "cuts", "box", "value", "worth"] (spLfH C) := by
  refine F.ok sc_leaf_holds (fun vs H Q E h => ?_) (fun cdv A outer s0 H vs Q E hr h => ?_)
  · obtain ⟨v, c, b, q, k, n, x, bx, L, rfl, _⟩ := h
    rfl
  · obtain ⟨v, c, b, vq, k, n, y, bx, L, rfl, tw, bo, lv, lok, rm, q⟩ := h
    obtain ⟨aQ, fL, ⟨Et, Ei, Ek, Eq, Eh⟩⟩ := S.get L rm
    obtain ⟨px, xs, rfl, hpx, lx⟩ := lfV_get lv
    have AH : ∀ f sp, (if f = fL then some (spLfT C (lfNm L)) else none) = some sp → Held P w K mg base 5 f sp := fun f sp h => by
      by_cases e : f = fL
      · rw [if_pos e] at h; cases h; subst e; exact Eh
      · rw [if_neg e] at h; cases h
    refine ⟨_, (pss_cons (ps_if (PW.pt (pw_or (pt_not (pt_val (pe_callB call_isE (by rfl) T.b_isinstance (by decide +kernel) (pa_cons (pv 3) (pa_cons (pe_bltn (v := .ty "tuple") (by rfl) T.b_tuple boot_tuple rfl) pa_nil))))) (pw_or (pt_cmpR op_lt (pe_callB call_len_seq (by rfl) T.b_len (by decide +kernel) (pa_cons (pv 3) pa_nil)) pe_int (nomark _)) (pw_or1 (pt_not (pt_val (pe_callB call_isE (by rfl) T.b_isinstance (by decide +kernel) (pa_cons (pe_ix ix_tup (pv 3) pe_int (fun _ _ => rfl)) (pa_cons (pe_bltn (v := .ty "str") (by rfl) T.b_str boot_str rfl) pa_nil))))))))) (pss_one (ps_ret pe_bl)) pss_nil)
      (pss_cons (ps_if (pt_cmpR op_in_seq (pe_ix ix_tup (pv 3) pe_int (fun _ _ => rfl)) (pe_tup (pa_cons pe_str (pa_cons pe_str pa_nil))) (by rfl)) (pss_one (ps_ret (pe_and (pe_cmpR op_eq (pe_callB call_len_seq (by rfl) T.b_len (by decide +kernel) (pa_cons (pv 3) pa_nil)) pe_int (nomark _)) (pe_one pe_no)))) pss_nil)
      (pss_cons (ps_if (pt_cmpR (op_notIn_kd S.kd) (pe_ix ix_tup (pv 3) pe_int (fun _ _ => rfl)) (pe_gc (by rfl) S.c_T) (by rfl)) (pss_one (ps_ret pe_bl)) pss_nil)
      (pss_cons (ps_if (PW.pt (pw_or (pt_cmpR op_ne (pe_callB call_len_seq (by rfl) T.b_len (by decide +kernel) (pa_cons (pv 3) pa_nil)) (pe_ix ix_kdict (pe_gc (by rfl) S.c_I) (pe_ix ix_tup (pv 3) pe_int (fun _ _ => rfl)) (fun _ _ => rfl)) (nomark _)) (pw_or (pt_not (pt_val (pe_c c_is_whole hr (by decide) (by rfl) (pa_cons (pe_ix ix_tup (pv 3) pe_int (fun _ _ => rfl)) pa_nil)))) (pw_or1 (pt_not (pt_chain op_le op_lt pe_int (pe_ix ix_tup (pv 3) pe_int (fun _ _ => rfl)) (pe_callB call_len_seq (by rfl) T.b_len (by decide +kernel) (pa_cons (pe_fld (pv 0) (by rfl)) pa_nil)))))))) (pss_one (ps_ret pe_bl)) pss_nil)
      (pss_cons (ps_if (pt_cmpR op_notIn_seq (pe_ix ix_tup (pe_ix ix_tup (pe_fld (pv 0) (by rfl)) (pe_ix ix_tup (pv 3) pe_int (fun _ _ => rfl)) (fun _ _ => rfl)) pe_int (fun _ _ => rfl)) (pe_ix ix_kdict (pe_gc (by rfl) S.c_K) (pe_ix ix_tup (pv 3) pe_int (fun _ _ => rfl)) (fun _ _ => rfl)) (by rfl)) (pss_one (ps_ret pe_bl)) pss_nil)
      (pss_cons (ps_set (i := 5) sc_leaf_holds.nd rfl (.inl rfl) (pe_ix ix_kdict (pe_gc (by rfl) S.c_T) (pe_ix ix_tup (pv 3) pe_int (fun _ _ => rfl)) (fun _ _ => rfl)))
      (pss_one (ps_ret (pe_callA (i := 5) AH hr rfl (.inl rfl) (pa_cons (pv 0) (pa_cons (pv 2) (pa_cons (pv 3) pa_nil)))))))))))), ?_⟩
    obtain ⟨ul, wl, goal, ⟨x, dx, pu, pw', pg', us', ws', rfl, hx, hpu, uv, hpw', wv, hpg⟩, hk, en_⟩ := id tw.tv
    obtain ⟨vw, hwk, wvk⟩ := wv.at2 hk
    refine ⟨_, rfl, .ref px, .type "tuple", "tuple", true, rfl, .base (.base (.tup hpx)), by rfl, true, rfl, iteF ?_⟩
    refine ⟨_, rfl, px, _, rfl, .inr (sq_tup hpx), _, _, rfl, rfl, _, rfl, iteF' (fun z => by have z := of_decide_eq_true z; have z : (((xs.length + 2 : Nat)) : Int) < 2 := z; omega) ?_⟩
    refine ⟨_, rfl, px, _, 0, _, rfl, rfl, sq_tup hpx, atI_nat (j := 0) rfl, .str (lfNm L), .type "str", "str", true, rfl, .base (.base (.str (lfNm L))), by rfl, true, rfl, iteF ?_⟩
    refine ⟨_, rfl, px, _, 0, _, rfl, rfl, sq_tup hpx, atI_nat (j := 0) rfl, len2, fun t nt => ?_⟩
    have st := same_upd (o := .tup [.str "worth", .str "none"]) nt
    refine ⟨t, _, rfl, .inr (sq_tup upd_same), rfl, rfl, _, rfl, iteF' (by rw [show inV (V.str (lfNm L)) [V.str "worth", V.str "none"] = false from lf_in L]; decide) ?_⟩
    generalize upd H t (.tup [.str "worth", .str "none"]) = H1 at *
    have hpx1 := st _ _ hpx
    have lv1 := lv.tk (TK.of st)
    have hx1 := st _ _ hx
    have hpw1 := st _ _ hpw'
    have tw1 := tw.ext (ext_of st)
    have lk := (List.getElem?_eq_some_iff.mp hwk).1
    obtain ⟨p1, us0, rfl, hp1⟩ : ∃ p1 us0, vw = .ref p1 ∧ H1 p1 = some (.tup (.str (kdS y.isR) :: us0)) := by
      have wv1 := wvk.same st
      have hJ := tw.j
      cases y with
      | unlike a => cases hJ
      | bench js =>
        obtain ⟨p, u, us, rfl, hp, _⟩ := wv1
        exact ⟨p, [.ref u], rfl, hp⟩
      | room js z =>
        obtain ⟨p, u, us, rfl, hp, _⟩ := wv1
        exact ⟨p, [.ref u, .int z], rfl, hp⟩
    obtain ⟨es', n', u', hk1, hk2, hk3, hk4⟩ := id Et
    refine ⟨_, rfl, px, _, 0, _, rfl, rfl, sq_tup hpx1, atI_nat (j := 0) rfl, lfNm L, some u', rfl, rfl, hk3, _, rfl, iteF ?_⟩
    refine ⟨_, rfl, px, _, rfl, .inr (sq_tup hpx1), _, rfl, px, _, 0, _, rfl, rfl, sq_tup hpx1, atI_nat (j := 0) rfl, aI, lfNm L, _, rfl, rfl, Ei, rfl, _, rfl, iteF' (by rw [show ((V.str (lfNm L) :: V.int (k : Int) :: xs).length : Int) = (lfN L : Int) by rw [← lx]; rfl]; simp) ?_⟩
    refine ⟨_, rfl, px, _, 1, _, rfl, rfl, sq_tup hpx1, atI_nat (j := 1) rfl, (k : Int), rfl, _, rfl, iteF' (by decide) ?_⟩
    have ll : ws'.length = wl.length := wv.len
    refine ⟨_, rfl, px, _, 1, _, rfl, rfl, sq_tup hpx1, atI_nat (j := 1) rfl, _, _, rfl, rfl, ?_⟩
    refine ⟨_, rfl, iteT' (decide_eq_true (by omega)) ?_⟩
    refine ⟨_, rfl, x, C, dx, _, _, rfl, hx1, cc.cl, cc.nw, lk_w _ _ _, pw', ws', rfl, .inr (sq_tup hpw1), _, _, rfl, rfl, _, rfl, ?_⟩
    have ek : (!decide ((k : Int) < (ws'.length : Nat))) = false := by rw [decide_eq_true (by omega)]; rfl
    first
      | refine iteF' (by intro z; rw [ek] at z; cases z) ?_
      | refine iteF' (by simp; omega) ?_
    refine ⟨_, rfl, x, C, dx, _, _, rfl, hx1, cc.cl, cc.nw, lk_w _ _ _, _, rfl, px, _, 1, _, rfl, rfl, sq_tup hpx1, atI_nat (j := 1) rfl, pw', ws', (k : Int), _, rfl, rfl, sq_tup hpw1, atI_nat hwk, p1, _, 0, _, rfl, rfl, sq_tup hp1, atI_nat (j := 0) rfl, ?_⟩
    refine ⟨_, rfl, px, _, 0, _, rfl, rfl, sq_tup hpx1, atI_nat (j := 0) rfl, aK, lfNm L, _, rfl, rfl, Ek, ?_⟩
    refine ⟨aQ, _, rfl, .inr (Eq _), rfl, rfl, _, rfl, ?_⟩
    have eB : inV (V.str (kdS y.isR)) [V.str "bench", V.str "room"] = true := by
      cases y.isR <;> decide +kernel
    refine iteF' (by rw [if_pos rfl, eB]; decide) ?_
    refine ⟨_, rfl, px, _, 0, _, rfl, rfl, sq_tup hpx1, atI_nat (j := 0) rfl, aL, lfNm L, _, rfl, rfl, Et, ?_⟩
    exact ⟨fL, spLfT C (lfNm L), rfl, if_pos rfl, _, rfl, _, rfl, _, rfl, .ref x, b, k, n, y, bx, px, L, rfl, rfl, tw1, bo, lv1, lok, fun H' s' => q _ (st.trans s')⟩
end
end M60

namespace M60
open PySem PySem.Spec PyProof.Rows L2 SX Own Gd
open C8 (Cal pe_c pe_gc pe_mk Mak pss_cut)
open M12 (Sn ld net Pos ld_nn cov lb lb_le lb_step lb_nil)
theorem natJ_flat (J : List Nat) : (natJ J).all flatV = true := by
  unfold natJ
  rw [List.all_eq_true]
  intro x hx
  obtain ⟨a, _, rfl⟩ := List.mem_map.mp hx
  rfl
theorem natJ_in {J : List Nat} {a : Nat} (h : a ∈ J) : inV (.int (a : Int)) (natJ J) = true := by
  unfold inV natJ
  rw [List.any_eq_true]
  exact ⟨.int (a : Int), List.mem_map.mpr ⟨a, h, rfl⟩, by first | rfl | exact decide_eq_true rfl | decide +kernel⟩
theorem shInt {c : Int} (h1 : -1000000 ≤ c) (h2 : c ≤ 1000000) : ShT.Shw 60 1000000 (.int c) := (ShT.Shw.int (by omega)).mono (by decide) (by decide)
theorem atN {xs : List V} {j : Nat} {x : V} (h : xs[j]? = some x) : atI xs (j : Int) = some x := atI_nat h
section
variable {P : Program} {w : World} {K : PySem.W.Frag} {mg : Str → Option Value} {base : Heap} {aW aT : Addr} {es : Array DictEntry} {nn : Nat}
abbrev s_Lleaf_right : Stmt := topS 110
abbrev n_Lleaf_right : List Str := ["leaf", "k", "windows", "size", "moments", "a", "b", "inside", "running", "job"]
theorem sc_Lleaf_right : FnScope n_Lleaf_right ["leaf", "k", "windows", "size", "moments"] (defScope s_Lleaf_right) := ⟨rfl, rfl, rfl, by decide +kernel, rfl, by decide +kernel, by decide +kernel⟩
def spLfR : Sp := fun vs H Q _ => ∃ (q v : V) (k : Nat) (ws : List Wd) (z : Int) (room : Bool) (L : Lf), vs = [q, .int k, v, .int z, .bl room] ∧ k ≤ 1000 ∧ LwV H v ws ∧ WsB ws z ∧ LfV k H q L ∧ LfOk ws z L ∧ (lfRoom L = true → room = true) ∧ ∀ H', Same H H' → Q (.bl true) H'
theorem ok_Lleaf_right {f : Addr} {fd : FuncData} (F : Fun K "_law_leaf_right" "_law_leaf_right" s_Lleaf_right f fd) (T : Txt K mg w aW aT es nn) (c_Lis_lot : Cal P w K mg base 1 "_law_is_lot" spLotL []) (c_Llate : Cal P w K mg base 1 "_law_late" spLtL []) (c_Lwithin : Cal P w K mg base 1 "_law_within" spWiL []) (c_Lwork : Cal P w K mg base 1 "_law_work" (spWkL K) []) (c_Lsure : Cal P w K mg base 1 "_law_sure" spSuL []) : FnG P w K mg base CX0 2 f fd ["leaf", "k", "windows", "size", "moments"] spLfR := by
  refine fun_okG F sc_Lleaf_right (fun vs H Q E h => ?_) (fun cdv A outer s0 H vs Q E hgd hr h => ?_)
  · obtain ⟨q, v, k, ws, z, room, L, rfl, _⟩ := h
    rfl
  · obtain ⟨vq, v, k, ws, z, room, L, rfl, kb, lw, wb, lv, lok, rm, q⟩ := h
    obtain ⟨px, xs, rfl, hpx, lx⟩ := lfV_get lv
    have few := wb.few
    have nm2 : 2 ≤ lfN L - 2 := by cases L <;> simp [lfN]
    refine ⟨_, (pss_cons (ps_if (PW.pt (pw_or (pt_not (pt_val (pe_callB call_isE (by rfl) T.b_isinstance (by decide +kernel) (pa_cons (pv 0) (pa_cons (pe_bltn (v := .ty "tuple") (by rfl) T.b_tuple boot_tuple rfl) pa_nil))))) (pw_or (pt_cmpR op_lt (pe_callB call_len_seq (by rfl) T.b_len (by decide +kernel) (pa_cons (pv 0) pa_nil)) pe_int (nomark _)) (pw_or1 (pt_cmpR op_ne (pe_callB (ShT.call_showX hgd hr.units) (by rfl) T.b_repr (by decide +kernel) (pa_cons (pe_ix ix_tup (pv 0) pe_int (fun _ _ => rfl)) pa_nil)) (pe_callB (ShT.call_showX hgd hr.units) (by rfl) T.b_repr (by decide +kernel) (pa_cons (pv 1) pa_nil)) (nomark _)))))) (pss_one (ps_ret pe_bl)) pss_nil)
      (pss_cons (ps_if (PW.pt (pw_and (pt_cmpR op_eq (pe_ix ix_tup (pv 0) pe_int (fun _ _ => rfl)) pe_str (nomark _)) (pw_and1 (pt_cmpR op_eq (pe_callB call_len_seq (by rfl) T.b_len (by decide +kernel) (pa_cons (pv 0) pa_nil)) pe_int (nomark _))))) (pss_one (ps_ret (pe_and (pe_c c_Lis_lot hr (by decide) (by rfl) (pa_cons (pe_slice sl_tupA (pv 0) (po_some pe_int) po_none) (pa_cons (pe_callB call_len_seq (by rfl) T.b_len (by decide +kernel) (pa_cons (pv 2) pa_nil)) pa_nil))) (pe_one (pe_c c_Llate hr (by decide) (by rfl) (pa_cons (pv 2) (pa_cons (pv 3) (pa_cons (pe_ix ix_tup (pv 0) pe_int (fun _ _ => rfl)) (pa_cons (pe_ix ix_tup (pv 0) pe_int (fun _ _ => rfl)) pa_nil))))))))) pss_nil)
      (pss_cons (ps_if (PW.pt (pw_and (pt_cmpR op_eq (pe_ix ix_tup (pv 0) pe_int (fun _ _ => rfl)) pe_str (nomark _)) (pw_and (pt_cmpR op_eq (pe_callB call_len_seq (by rfl) T.b_len (by decide +kernel) (pa_cons (pv 0) pa_nil)) pe_int (nomark _)) (pw_and1 (pt_val (pe_c c_Lis_lot hr (by decide) (by rfl) (pa_cons (pe_ix ix_tup (pv 0) pe_int (fun _ _ => rfl)) (pa_cons (pe_callB call_len_seq (by rfl) T.b_len (by decide +kernel) (pa_cons (pv 2) pa_nil)) pa_nil)))))))) (pss_cons (ps_par (i := 5) (j := 6) (by rfl) sc_Lleaf_right.nd rfl rfl (by decide) rfl rfl (pa_cons (pe_ix ix_tup (pv 0) pe_int (fun _ _ => rfl)) (pa_cons (pe_ix ix_tup (pv 0) pe_int (fun _ _ => rfl)) pa_nil)) (by rfl))
        (pss_cons (ps_if (PW.pt (pw_or (pt_not (pt_val (pe_callB call_isE (by rfl) T.b_isinstance (by decide +kernel) (pa_cons (pv 5) (pa_cons (pe_bltn (v := .ty "int") (by rfl) T.b_int boot_int rfl) pa_nil))))) (pw_or (pt_not (pt_val (pe_callB call_isE (by rfl) T.b_isinstance (by decide +kernel) (pa_cons (pv 6) (pa_cons (pe_bltn (v := .ty "int") (by rfl) T.b_int boot_int rfl) pa_nil))))) (pw_or1 (pt_cmpR op_gt (pv 5) (pv 6) (nomark _)))))) (pss_one (ps_ret pe_bl)) pss_nil)
        (pss_cons (ps_set (i := 7) sc_Lleaf_right.nd rfl (.inr rfl) (pe_c c_Lwithin hr (by decide) (by rfl) (pa_cons (pv 2) (pa_cons (pv 5) (pa_cons (pv 6) pa_nil)))))
        (pss_one (ps_ret (pe_and (pe_callB (cr_all rfl) (by rfl) T.b_all (by decide +kernel) (pa_cons (pe_lc (own := [("job", 9)]) rfl sc_Lleaf_right.nd (pi_tup (pe_ix ix_tup (pv 0) pe_int (fun _ _ => rfl))) (blkOk_by (N := n_Lleaf_right) (sc := defScope s_Lleaf_right) (by decide +kernel)) (fun _ _ _ _ _ => (pg_name (i := 9) sc_Lleaf_right.nd rfl (.inl rfl))) (fun _ _ _ _ _ => pts_nil) (fun _ _ _ _ _ => (pe_cmpR (r := rIn K false) op_in_seq (pv 9) (pv 7) (by rfl)))) pa_nil)) (pe_one (pe_cmpR op_gt (pe_c c_Lwork hr (by decide) (by rfl) (pa_cons (pv 2) (pa_cons (pe_ix ix_tup (pv 0) pe_int (fun _ _ => rfl)) pa_nil))) (pe_op op_mul (pe_op op_sub (pv 6) (pv 5)) (pv 3)) (nomark _))))))))) pss_nil)
      (pss_cons (ps_if (PW.pt (pw_and (pt_cmpR op_eq (pe_ix ix_tup (pv 0) pe_int (fun _ _ => rfl)) pe_str (nomark _)) (pw_and (pt_cmpR op_eq (pe_callB call_len_seq (by rfl) T.b_len (by decide +kernel) (pa_cons (pv 0) pa_nil)) pe_int (nomark _)) (pw_and (pt_truth (pv 4) (by intro _; rfl)) (pw_and (pt_val (pe_c c_Lis_lot hr (by decide) (by rfl) (pa_cons (pe_ix ix_tup (pv 0) pe_int (fun _ _ => rfl)) (pa_cons (pe_callB call_len_seq (by rfl) T.b_len (by decide +kernel) (pa_cons (pv 2) pa_nil)) pa_nil)))) (pw_and1 (pt_val (pe_callB call_isE (by rfl) T.b_isinstance (by decide +kernel) (pa_cons (pe_ix ix_tup (pv 0) pe_int (fun _ _ => rfl)) (pa_cons (pe_bltn (v := .ty "int") (by rfl) T.b_int boot_int rfl) pa_nil)))))))))) (pss_cons (ps_set (i := 8) sc_Lleaf_right.nd rfl (.inr rfl) (pe_c c_Lsure hr (by decide) (by rfl) (pa_cons (pv 2) (pa_cons (pe_ix ix_tup (pv 0) pe_int (fun _ _ => rfl)) pa_nil))))
        (pss_one (ps_ret (pe_and (pe_callB (cr_all rfl) (by rfl) T.b_all (by decide +kernel) (pa_cons (pe_lc (own := [("job", 9)]) rfl sc_Lleaf_right.nd (pi_tup (pe_ix ix_tup (pv 0) pe_int (fun _ _ => rfl))) (blkOk_by (N := n_Lleaf_right) (sc := defScope s_Lleaf_right) (by decide +kernel)) (fun _ _ _ _ _ => (pg_name (i := 9) sc_Lleaf_right.nd rfl (.inl rfl))) (fun _ _ _ _ _ => pts_nil) (fun _ _ _ _ _ => (pe_cmpR (r := rIn K false) op_in_seq (pv 9) (pv 8) (by rfl)))) pa_nil)) (pe_one (pe_cmpR op_gt (pe_callB (cr_sum rfl) (by rfl) T.b_sum (by decide +kernel) (pa_cons (pe_lc (own := [("job", 9)]) rfl sc_Lleaf_right.nd (pi_tup (pe_ix ix_tup (pv 0) pe_int (fun _ _ => rfl))) (blkOk_by (N := n_Lleaf_right) (sc := defScope s_Lleaf_right) (by decide +kernel)) (fun _ _ _ _ _ => (pg_name (i := 9) sc_Lleaf_right.nd rfl (.inl rfl))) (fun _ _ _ _ _ => pts_nil) (fun _ _ _ _ _ => (pe_ix (r := rIxT K) ix_tup (pe_ix (r := rIxL K) ix_list (pv 2) (pv 9) (fun _ _ => rfl)) pe_int (fun _ _ => rfl)))) pa_nil)) (pv 3) (nomark _))))))) pss_nil)
      (pss_one (ps_ret pe_bl)))))), ?_⟩
    refine ⟨_, rfl, .ref px, .type "tuple", "tuple", true, rfl, .base (.base (.tup hpx)), by rfl, true, rfl, iteF ?_⟩
    refine ⟨_, rfl, px, _, rfl, .inr (sq_tup hpx), _, _, rfl, rfl, _, rfl, iteF' (fun z => by have z := of_decide_eq_true z; have z : (((xs.length + 2 : Nat)) : Int) < 4 := z; omega) ?_⟩
    refine ⟨_, rfl, px, _, 1, _, rfl, rfl, sq_tup hpx, atI_nat (j := 1) rfl, _, _, rfl, .int _, shInt (by omega) (by omega), .inr (.inr ⟨_, rfl⟩), _, rfl, _, _, rfl, .int _, shInt (by omega) (by omega), .inr (.inr ⟨_, rfl⟩), rfl, _, rfl, iteF' (by simp) ?_⟩
    have few2 := wb.lb
    obtain ⟨pl, us, rfl, hpl, wl⟩ := id lw
    have lus := wl.len
    cases L with
    | late i o =>
      obtain ⟨p', e0, hpx⟩ := lv; cases e0
      obtain ⟨io, ol, lp⟩ := lok
      refine ⟨_, rfl, px, _, 0, _, rfl, rfl, sq_tup hpx, atI_nat (j := 0) rfl, rfl, _, rfl, iteT ?_⟩
      refine ⟨_, rfl, px, _, rfl, .inr (sq_tup hpx), rfl, _, rfl, iteT ?_⟩
      refine ⟨_, rfl, _, rfl, ?_⟩
      unfold tNoPart
      refine slFrom (a := 1) hpx (by show 1 < 4; decide) fun pr H3 s3 hpr => ?_
      refine ⟨_, rfl, pl, us, rfl, .inl (sq_lst (s3 _ _ hpl)), ?_⟩
      refine ⟨pr, [i, o], us.length, rfl, hpr, ?_, fun a ha => ?_, by show 2 ≤ 20; decide, _, rfl, iteT' rfl ?_⟩
      · exact .cons (fun a ha => by rw [List.mem_singleton.mp ha]; exact io) (.cons (fun a ha => by cases ha) .nil)
      · simp only [List.mem_cons, List.mem_nil_iff, or_false] at ha
        omega
      refine ⟨_, rfl, _, rfl, _, rfl, px, _, 2, _, rfl, rfl, sq_tup (s3 _ _ hpx), atI_nat (j := 2) rfl, _, rfl, px, _, 3, _, rfl, rfl, sq_tup (s3 _ _ hpx), atI_nat (j := 3) rfl, ?_⟩
      refine ⟨.ref pl, ws, z, i, o, rfl, lw.tk s3, by omega, ol, ?_⟩
      rw [show lateX ws z i o = true from decide_eq_true lp]
      exact q _ s3
    | load J f l =>
      obtain ⟨p', pj, e0, hpx, hpj⟩ := lv; cases e0
      obtain ⟨incJ, mem, fl, big⟩ := lok
      have lJ : J.length ≤ 20 := Nat.le_trans (pw_len incJ fun a ha => (mem a ha).1) few
      refine ⟨_, rfl, px, _, 0, _, rfl, rfl, sq_tup hpx, atI_nat (j := 0) rfl, rfl, _, rfl, iteF' (by decide +kernel) ?_⟩
      refine iteF' (by decide) ?_
      refine ⟨_, rfl, px, _, 0, _, rfl, rfl, sq_tup hpx, atI_nat (j := 0) rfl, rfl, _, rfl, iteT ?_⟩
      refine ⟨_, rfl, px, _, rfl, .inr (sq_tup hpx), rfl, _, rfl, iteT ?_⟩
      refine ⟨_, rfl, px, _, 2, _, rfl, rfl, sq_tup hpx, atI_nat (j := 2) rfl, _, rfl, pl, us, rfl, .inl (sq_lst hpl), ?_⟩
      refine ⟨pj, J, us.length, rfl, hpj, incJ, fun a ha => by have := (mem a ha).1; omega, lJ, _, rfl, iteT' rfl ?_⟩
      refine ⟨_, rfl, px, _, 3, _, rfl, rfl, sq_tup hpx, atI_nat (j := 3) rfl, _, rfl, px, _, 4, _, rfl, rfl, sq_tup hpx, atI_nat (j := 4) rfl, _, _, rfl, ?_⟩
      refine ⟨_, rfl, .int f, .type "int", "int", true, rfl, .base (.base (.int _)), by rfl, true, rfl, iteF ?_⟩
      refine ⟨_, rfl, .int l, .type "int", "int", true, rfl, .base (.base (.int _)), by rfl, true, rfl, iteF ?_⟩
      refine ⟨_, rfl, _, rfl, _, _, rfl, rfl, _, rfl, iteF' (fun z => by have z := of_decide_eq_true z; omega) ?_⟩
      refine ⟨_, rfl, _, rfl, _, rfl, .ref pl, ws, f, l, rfl, lw, few, fun pi H1 s1 np hpi => ?_⟩
      refine ⟨_, rfl, px, _, 2, _, rfl, rfl, sq_tup (s1 _ _ hpx), atI_nat (j := 2) rfl, pj, rfl, ⟨_, sq_tup (s1 _ _ hpj)⟩, fun D nD => ?_⟩
      refine lc_tup (K := K) (a := pj) (xs := natJ J) (fun m H' => H' D = some (.lst ((List.replicate m true).map V.bl)) ∧ Same H1 H') ⟨upd_same, same_upd nD⟩ (fun m H' _ h => sq_tup (h.2 _ _ (s1 _ _ hpj))) ?_ ?_
      · rintro m x H2 hx ⟨hD, sm⟩
        obtain ⟨a, ha, rfl⟩ := natJ_at hx
        have ma := List.mem_of_getElem? ha
        have lm := (List.getElem?_eq_some_iff.mp ha).1
        obtain ⟨m1, m2, m3⟩ := mem a ma
        refine ⟨rfl, _, rfl, _, rfl, pi, natJ (inL ws f l), rfl, .inl (sq_lst (sm _ _ hpi)), rfl, natJ_flat _, _, hD, by rw [List.length_map, List.length_replicate]; exact small1000 (by omega), ?_, same_at sm nD⟩
        rw [upd_same, List.replicate_succ', List.map_append]
        show some (HO.lst (_ ++ [V.bl (inV (.int (a : Int)) (natJ (inL ws f l)))])) = _
        rw [natJ_in (inL_mem.mpr ⟨m1, m2, m3⟩)]; rfl
      · rintro H2 ⟨hD, sm⟩
        refine ⟨D, _, rfl, sq_lst hD, ?_⟩
        refine ⟨_, rfl, iteT' (by rw [List.all_eq_true]; intro b hb; rw [List.eq_of_mem_replicate hb]; rfl) ?_⟩
        have s12 := s1.trans sm
        refine ⟨_, rfl, _, rfl, px, _, 2, _, rfl, rfl, sq_tup (s12 _ _ hpx), atI_nat (j := 2) rfl, .ref pl, .ref pj, ws, J, rfl, lw.tk s12, ⟨pj, rfl, .inr (s12 _ _ hpj)⟩, fun a ha => ?_, lJ, fun H3 s3 => ?_⟩
        · have m1 := (mem a ha).1
          exact ⟨m1, by have := wb.ok.len a m1; omega, wb.lb a m1⟩
        refine ⟨_, rfl, _, rfl, _, _, rfl, rfl, _, rfl, _, _, rfl, rfl, .inr ⟨by have := wb.z1; omega, by have := wb.zb; omega⟩, _, _, rfl, rfl, ?_⟩
        show Q (V.bl (decide ((l - f) * z < ls (wk ws) J))) H3
        rw [Int.mul_comm, decide_eq_true big]
        exact q _ (s12.trans s3)
    | full J m =>
      obtain ⟨p', pj, e0, hpx, hpj⟩ := lv; cases e0
      obtain ⟨incJ, mem, big⟩ := lok
      have er : room = true := rm rfl
      subst er
      have lJ : J.length ≤ 20 := Nat.le_trans (pw_len incJ fun a ha => (mem a ha).1) few
      refine ⟨_, rfl, px, _, 0, _, rfl, rfl, sq_tup hpx, atI_nat (j := 0) rfl, rfl, _, rfl, iteF' (by decide +kernel) ?_⟩
      refine iteF' (by decide) ?_
      refine ⟨_, rfl, px, _, 0, _, rfl, rfl, sq_tup hpx, atI_nat (j := 0) rfl, rfl, _, rfl, iteF' (by decide +kernel) ?_⟩
      refine iteF' (by decide) ?_
      refine ⟨_, rfl, px, _, 0, _, rfl, rfl, sq_tup hpx, atI_nat (j := 0) rfl, rfl, _, rfl, iteT ?_⟩
      refine ⟨_, rfl, px, _, rfl, .inr (sq_tup hpx), rfl, _, rfl, iteT ?_⟩
      refine ⟨_, rfl, true, rfl, iteT' rfl ?_⟩
      refine ⟨_, rfl, px, _, 2, _, rfl, rfl, sq_tup hpx, atI_nat (j := 2) rfl, _, rfl, pl, us, rfl, .inl (sq_lst hpl), ?_⟩
      refine ⟨pj, J, us.length, rfl, hpj, incJ, fun a ha => by have := (mem a ha).1; omega, lJ, _, rfl, iteT' rfl ?_⟩
      refine ⟨_, rfl, px, _, 3, _, rfl, rfl, sq_tup hpx, atI_nat (j := 3) rfl, .int m, .type "int", "int", true, rfl, .base (.base (.int _)), by rfl, true, rfl, iteT ?_⟩
      refine ⟨_, rfl, _, rfl, px, _, 3, _, rfl, rfl, sq_tup hpx, atI_nat (j := 3) rfl, .ref pl, ws, m, rfl, lw, few, fun pi H1 s1 np hpi => ?_⟩
      refine ⟨_, rfl, px, _, 2, _, rfl, rfl, sq_tup (s1 _ _ hpx), atI_nat (j := 2) rfl, pj, rfl, ⟨_, sq_tup (s1 _ _ hpj)⟩, fun D nD => ?_⟩
      refine lc_tup (K := K) (a := pj) (xs := natJ J) (fun i H' => H' D = some (.lst ((List.replicate i true).map V.bl)) ∧ Same H1 H') ⟨upd_same, same_upd nD⟩ (fun i H' _ h => sq_tup (h.2 _ _ (s1 _ _ hpj))) ?_ ?_
      · rintro i x H2 hx ⟨hD, sm⟩
        obtain ⟨a, ha, rfl⟩ := natJ_at hx
        have ma := List.mem_of_getElem? ha
        have lm := (List.getElem?_eq_some_iff.mp ha).1
        obtain ⟨m1, m2, m3⟩ := mem a ma
        refine ⟨rfl, _, rfl, _, rfl, pi, natJ (sureL ws m), rfl, .inl (sq_lst (sm _ _ hpi)), rfl, natJ_flat _, _, hD, by rw [List.length_map, List.length_replicate]; exact small1000 (by omega), ?_, same_at sm nD⟩
        rw [upd_same, List.replicate_succ', List.map_append]
        show some (HO.lst (_ ++ [V.bl (inV (.int (a : Int)) (natJ (sureL ws m)))])) = _
        rw [natJ_in (sure_mem.mpr ⟨m1, m2, m3⟩)]; rfl
      · rintro H2 ⟨hD, sm⟩
        refine ⟨D, _, rfl, sq_lst hD, ?_⟩
        refine ⟨_, rfl, iteT' (by rw [List.all_eq_true]; intro b hb; rw [List.eq_of_mem_replicate hb]; rfl) ?_⟩
        have s12 := s1.trans sm
        refine ⟨_, rfl, px, _, 2, _, rfl, rfl, sq_tup (s12 _ _ hpx), atI_nat (j := 2) rfl, pj, rfl, ⟨_, sq_tup (s12 _ _ hpj)⟩, fun D2 nD2 => ?_⟩
        refine lc_tup (K := K) (a := pj) (xs := natJ J) (fun i H' => H' D2 = some (.lst (((J.take i).map (nd ws)).map V.int)) ∧ Same H2 H') ⟨upd_same, same_upd nD2⟩ (fun i H' _ h => sq_tup (h.2 _ _ (s12 _ _ hpj))) ?_ ?_
        · rintro i x H3 hx ⟨hD2, sm2⟩
          obtain ⟨a, ha, rfl⟩ := natJ_at hx
          have ma := List.mem_of_getElem? ha
          have lm := (List.getElem?_eq_some_iff.mp ha).1
          obtain ⟨m1, m2, m3⟩ := mem a ma
          obtain ⟨pk, uk, hpk⟩ := wd_at wl m1
          have s13 := s12.trans sm2
          refine ⟨rfl, _, rfl, _, rfl, pl, us, (a : Int), _, rfl, rfl, sq_lst (s13 _ _ hpl), atI_nat uk, pk, _, 3, _, rfl, rfl, sq_tup (s13 _ _ hpk), atI_nat (j := 3) rfl, _, hD2, by rw [List.length_map, List.length_map, List.length_take]; exact small1000 (by omega), ?_, same_at sm2 nD2⟩
          rw [upd_same, take_one ha, List.map_append, List.map_append]; rfl
        · rintro H3 ⟨hD2, sm2⟩
          rw [natJ_len, List.take_length] at hD2
          refine ⟨D2, _, rfl, sq_lst hD2, _, rfl, _, _, rfl, rfl, ?_⟩
          rw [lsmap]
          show Q (V.bl (decide (z < ls (nd ws) J))) H3
          rw [decide_eq_true big]
          exact q _ (s12.trans sm2)
end
end M60

namespace M60
open PySem PySem.Spec PyProof.Rows L2 SX Own Gd
open C8 (Cal pe_c pe_gc pe_mk Mak pss_cut)
open M12 (Sn ld net Pos ld_nn cov lb lb_le lb_step lb_nil)
/-! ### what is told to the letter, and what is due -/
theorem lateN_fst (ws : List Wd) (z : Int) (j : Nat) : (lateN ws z j ws.length).map Prod.fst = lateC ws z j := by
  unfold lateN lateC
  rw [List.map_map]; rfl
theorem lateN_ok {ws : List Wd} {z : Int} {j : Nat} (hj : j < ws.length) {x : Int × Lf} (h : x ∈ lateN ws z j ws.length) : LfOk (cg ws j (lo ws j) (x.1 - 1)) z x.2 ∧ lfRoom x.2 = false := by
  unfold lateN at h
  obtain ⟨o, ho, rfl⟩ := List.mem_map.mp h
  obtain ⟨h1, h2⟩ := List.mem_filter.mp ho
  have h1 := List.mem_range.mp h1
  obtain ⟨c1, c2, c3⟩ := of_decide_eq_true h2
  exact ⟨late_lf hj h1 c1 c2 c3, rfl⟩
theorem spC_fst {ws : List Wd} {z : Int} {fs : List Int} (il : IsLows ws fs) (j : Nat) (v : Int) : v ∈ (spC ws z j fs).map Prod.fst ↔ v ∈ loadC ws z j := by
  rw [load_mem, List.mem_map]
  constructor
  · rintro ⟨⟨s, f, l⟩, hx, rfl⟩
    obtain ⟨hf, P, a, R, e, hR, el, big, es⟩ := spC_ok hx
    have hf : f ∈ fs := hf
    have := (il.2 f).mp hf
    unfold lows at this
    obtain ⟨w, hw, ef⟩ := List.mem_map.mp this
    obtain ⟨k, hk, ek⟩ := List.mem_iff_getElem.mp hw
    have el_ : lo ws k = f := by unfold lo; rw [gW_at hk, ek]; exact ef
    have el : l = en ws a := el
    refine ⟨k, P, a, R, hk, by rw [el_]; exact e, hR, by rw [el_, ← el]; exact big, by rw [el_]; exact es⟩
  · rintro ⟨k, P, a, R, hk, e, hR, big, rfl⟩
    have hf : lo ws k ∈ fs := (il.2 _).mpr (by
      unfold lows
      refine List.mem_map.mpr ⟨ws[k], List.getElem_mem hk, ?_⟩
      unfold lo; rw [gW_at hk])
    exact ⟨_, spC_mem hf ⟨P, a, R, e, hR, rfl, big, rfl⟩, rfl⟩
theorem startG_fst {ws : List Wd} {z : Int} {fs : List Int} (il : IsLows ws fs) (j : Nat) : (startG ws z fs j).map Prod.fst = mxO (startC false ws z j) := by
  unfold startG
  rw [mx2G_fst]
  have e1 : (lateG ws z j).map Prod.fst = mxO (lateC ws z j) := by unfold lateG; rw [mxG_fst, lateN_fst]
  have e2 : (loadG ws z fs j).map Prod.fst = mxO (loadC ws z j) := by
    unfold loadG
    rw [Option.map_map]
    have : (Prod.fst ∘ spanL ws j) = (Prod.fst : Int × (Int × Int) → Int) := rfl
    rw [this]
    unfold spanG
    rw [mxG_fst]
    exact mxO_cong (spC_fst il j)
  rw [e1, e2, mxO_app]
  unfold startC
  rw [if_neg (by decide), List.append_nil]
theorem startG_ok {ws : List Wd} {z : Int} (ok : WsOk ws z) (z0 : 0 < z) {fs : List Int} {j : Nat} (hj : j < ws.length) {x : Int × Lf} (h : startG ws z fs j = some x) : LfOk (cg ws j (lo ws j) (x.1 - 1)) z x.2 ∧ lfRoom x.2 = false := by
  unfold startG at h
  rcases mx2G_mem h with h | h
  · exact lateN_ok hj (mxG_mem h)
  · unfold loadG at h
    obtain ⟨y, hy, rfl⟩ := Option.map_eq_some_iff.mp h
    have := (spC_ok (mxG_mem hy)).2
    exact ⟨(load_lf ok z0 this).2, rfl⟩
/-- a draw that is due: what is told, the job, its ends without what is drawn -/
abbrev Du := Dl × (Nat × (Int × Int))
def du0 (p j : Nat) (w : Wd) : Option (Int × Lf) → List Du
  | some x => if w.1 < x.1 then [(((p, 0, x.1), x.2), (j, (w.1, x.1 - 1)))] else []
  | none => []
def du1 (p j : Nat) (w : Wd) (l : Option (Int × Lf)) : Option (Int × Lf) → List Du
  | some x => if lowJG w l ≤ -x.1 - w.2.2.1 ∧ -x.1 - w.2.2.1 < w.2.1 then [(((p, 1, -x.1 - w.2.2.1), lfB x.2), (j, (-x.1 - w.2.2.1 + 1, w.2.1)))] else []
  | none => []
def dueG (js : List Jb) (ws : List Wd) (gl gb : Nat → Option (Int × Lf)) (n : Nat) : List Du := (List.range n).flatMap fun k => du0 (jA js k).1 k (gW ws k) (gl k) ++ du1 (jA js k).1 k (gW ws k) (gl k) (gb k)
theorem dueG_succ (js : List Jb) (ws : List Wd) (gl gb : Nat → Option (Int × Lf)) (n : Nat) : dueG js ws gl gb (n + 1) = dueG js ws gl gb n ++ (du0 (jA js n).1 n (gW ws n) (gl n) ++ du1 (jA js n).1 n (gW ws n) (gl n) (gb n)) := by
  unfold dueG
  rw [List.range_succ, List.flatMap_append]
  simp
theorem du0_fst (p j : Nat) (w : Wd) (l : Option (Int × Lf)) : (du0 p j w l).map Prod.fst = dr0G p w l := by
  cases l with
  | none => rfl
  | some x => unfold du0 dr0G; dsimp only; split <;> rfl
theorem du1_fst (p j : Nat) (w : Wd) (l b : Option (Int × Lf)) : (du1 p j w l b).map Prod.fst = dr1G p w l b := by
  cases b with
  | none => rfl
  | some x => unfold du1 dr1G; dsimp only; split <;> rfl
theorem dueG_fst (js : List Jb) (ws : List Wd) (gl gb : Nat → Option (Int × Lf)) : ∀ n, (dueG js ws gl gb n).map Prod.fst = drawsG js ws gl gb n
  | 0 => rfl
  | n + 1 => by rw [dueG_succ, drawsG_succ, List.map_append, List.map_append, dueG_fst js ws gl gb n, du0_fst, du1_fst]
theorem dueG_len (js : List Jb) (ws : List Wd) (gl gb : Nat → Option (Int × Lf)) (n : Nat) : (dueG js ws gl gb n).length ≤ 2 * n := by
  have := congrArg List.length (dueG_fst js ws gl gb n)
  rw [List.length_map] at this
  rw [this]; exact drawsG_len js ws gl gb n
/-- what holds of a draw that is due -/
structure DuOk (js : List Jb) (ws : List Wd) (z : Int) (e : Du) : Prop where
  j : e.2.1 < ws.length
  p : e.1.1.1 = (jA js e.2.1).1
  ab : e.2.2.1 ≤ e.2.2.2
  in1 : lo ws e.2.1 ≤ e.2.2.1
  in2 : e.2.2.2 ≤ hi ws e.2.1
  v1 : lo ws e.2.1 ≤ e.1.1.2.2 ∧ e.1.1.2.2 ≤ hi ws e.2.1
  s1 : e.1.1.2.1 = 0 ∨ e.1.1.2.1 = 1
  lf : LfOk (cg ws e.2.1 e.2.2.1 e.2.2.2) z e.1.2
  rm : lfRoom e.1.2 = false
theorem lfB_room (L : Lf) : lfRoom (lfB L) = lfRoom L := by cases L <;> rfl
theorem dueG_ok {js : List Jb} {ws : List Wd} {z : Int} (ok : WsOk ws z) (z0 : 0 < z) (nl : leafB false ws z = false) {fs gs : List Int} (il : IsLows ws fs) (ig : IsLows (bw ws) gs) : ∀ n, n ≤ ws.length → ∀ e ∈ dueG js ws (startG ws z fs) (startG (bw ws) z gs) n, DuOk js ws z e
  | 0, _, e, h => by cases h
  | n + 1, hn, e, h => by
    rw [dueG_succ] at h
    have okb := bw_ok ok
    have nlb : leafB false (bw ws) z = false := by rw [leaf_bw ok (by omega)]; exact nl
    have hj : n < ws.length := by omega
    have hjb : n < (bw ws).length := by rw [bw_len]; exact hj
    rcases List.mem_append.mp h with h | h
    · exact dueG_ok ok z0 nl il ig n (by omega) e h
    rcases List.mem_append.mp h with h | h
    · cases eg : startG ws z fs n with
      | none => rw [eg] at h; cases h
      | some x =>
        rw [eg] at h
        unfold du0 at h
        dsimp only at h
        by_cases c : (gW ws n).1 < x.1
        · rw [if_pos c] at h
          rw [List.mem_singleton.mp h]
          have c : lo ws n < x.1 := c
          have fst := startG_fst (z := z) il n
          rw [eg] at fst
          have mx := mxO_is (startC false ws z n)
          rw [← fst] at mx
          have hi1 := start_hi ok z0 false nl hj mx.1
          obtain ⟨g1, g2⟩ := startG_ok ok z0 hj eg
          have o := ok.ord n hj
          exact ⟨hj, rfl, by show lo ws n ≤ x.1 - 1; omega, Int.le_refl _, by show x.1 - 1 ≤ hi ws n; omega, ⟨by show lo ws n ≤ x.1; omega, by show x.1 ≤ hi ws n; omega⟩, .inl rfl, g1, g2⟩
        · rw [if_neg c] at h; cases h
    · cases eg : startG (bw ws) z gs n with
      | none => rw [eg] at h; cases h
      | some x =>
        rw [eg] at h
        unfold du1 at h
        dsimp only at h
        by_cases c : lowJG (gW ws n) (startG ws z fs n) ≤ -x.1 - (gW ws n).2.2.1 ∧ -x.1 - (gW ws n).2.2.1 < (gW ws n).2.1
        · rw [if_pos c] at h
          rw [List.mem_singleton.mp h]
          have c2 : -x.1 - ln ws n < hi ws n := c.2
          have fst := startG_fst (z := z) ig n
          rw [eg] at fst
          have mx := mxO_is (startC false (bw ws) z n)
          rw [← fst] at mx
          have hi1 := start_hi okb z0 false nlb hjb mx.1
          have hi1 : x.1 ≤ hi (bw ws) n := hi1
          rw [bw_hi hj] at hi1
          obtain ⟨g1, g2⟩ := startG_ok okb z0 hjb eg
          have o := ok.ord n hj
          refine ⟨hj, rfl, by show -x.1 - ln ws n + 1 ≤ hi ws n; omega, by show lo ws n ≤ -x.1 - ln ws n + 1; omega, Int.le_refl _, ⟨by show lo ws n ≤ -x.1 - ln ws n; omega, by show -x.1 - ln ws n ≤ hi ws n; omega⟩, .inr rfl, ?_, by show lfRoom (lfB x.2) = false; rw [lfB_room]; exact g2⟩
          show LfOk (cg ws n (-x.1 - ln ws n + 1) (hi ws n)) z (lfB x.2)
          refine lfB_ok ?_
          rw [bw_cg hj, show -(-x.1 - ln ws n + 1) - ln ws n = x.1 - 1 by omega]
          rw [bw_lo hj] at g1
          exact g1
        · rw [if_neg c] at h; cases h
/-- the windows of a box with other ends for one job -/
theorem ws_set {n : Nat} {z : Int} {js : List Jb} {bx : Bx} (ok : JsOk n z js) (bl : bx.length = n) {j : Nat} (hj : j < js.length) (a b : Int) : wsOf js (bx.set (jA js j).1 (a, b)) = cg (wsOf js bx) j a b := by
  have pl : (jA js j).1 < bx.length := by have := ok.pl _ (jA_mem hj); omega
  have hjw : j < (wsOf js bx).length := by rw [ws_len]; exact hj
  refine ws_cong (by rw [cg_len, ws_len, ws_len]) fun k hk => ?_
  rw [cg_len, ws_len] at hk
  rw [cg_at hjw, ws_at hk]
  unfold winJ
  rw [bx_set pl]
  by_cases e : k = j
  · subst e
    rw [if_pos rfl, if_pos rfl]
    have := ws_at (b := bx) hk
    unfold ln nd
    rw [this]; rfl
  · rw [if_neg e, if_neg (jA_ne ok hk hj e), ws_at hk]; rfl
theorem bo_set {bx : Bx} (bo : BxOk bx) {p : Nat} {a b : Int} (ab : a ≤ b) : BxOk (bx.set p (a, b)) := fun x hx => by
  rcases List.mem_or_eq_of_mem_set hx with h | h
  · exact bo x h
  · rw [h]; exact ab
end M60

/-! a loop over zip of a tuple and a list of one length. -/
namespace ZM
open PySem PySem.Spec PyProof.Rows L2 RZ
def ItzM (K : PySem.W.Frag) (a b : Addr) : It :=
  ⟨fun i H => ∃ (xs ys : List V) (x y : V), SqT K H a xs ∧ SqL K H b ys ∧ xs.length = ys.length ∧ xs[i]? = some x ∧ ys[i]? = some y,
    fun i H v H' => ∃ T x y, v = .ref T ∧ H T = none ∧ H' = upd H T (.tup [x, y]) ∧ (∀ xs, SqT K H a xs → xs[i]? = some x) ∧ ∀ ys, SqL K H b ys → ys[i]? = some y,
    fun i H => ∃ xs ys : List V, SqT K H a xs ∧ SqL K H b ys ∧ xs.length = i ∧ ys.length = i⟩
theorem turn_zipM {P : Program} {w : World} {K : PySem.W.Frag} {elts : List Expr} {kk : Nat} {tpos : Pos} {a b z TI TO i1 i2 : Addr} (D : ZipSep2 z TI TO i1 i2 [i1, a] [i2, b]) (na : a ≠ i1) (nb : b ≠ i2) :
    Turn P w K (.Tuple elts kk tpos) (ItzM K a b) [z, TI, TO, i1, i2] z (fun i h => IsZip h z TI TO .none ∧ IsTupOf2 h TI (.ref i1) (.ref i2) ∧ (∃ x y, IsTupOf2 h TO x y) ∧ h.IsTupleIter i1 a i ∧ h.IsListIter i2 b i) where
  mem := by simp
  obj := fun i h st e hc => by
    obtain ⟨hz, hTI, ⟨x, y, hTO⟩, ⟨o1, e1, _, d1⟩, ⟨o2, e2, _, d2⟩⟩ := st
    have e' : e = z ∨ e = TI ∨ e = TO ∨ e = i1 ∨ e = i2 := by simpa using hc
    rcases e' with q | q | q | q | q
    · rw [q]; exact ⟨_, hz, fun v q => nomatch q⟩
    · rw [q]; exact ⟨_, hTI, fun v q => nomatch q⟩
    · rw [q]; exact ⟨_, hTO, fun v q => nomatch q⟩
    · rw [q]; exact ⟨o1, e1, fun v q => by rw [d1] at q; cases q⟩
    · rw [q]; exact ⟨o2, e2, fun v q => by rw [d2] at q; cases q⟩
  keep := fun i h h' st k => by
    obtain ⟨hz, hTI, ⟨x, y, hTO⟩, h1, h2⟩ := st
    exact ⟨k z (by simp) _ hz, k TI (by simp) _ hTI, ⟨x, y, k TO (by simp) _ hTO⟩, h1.at fun o q => k i1 (by simp) o q, h2.at fun o q => k i2 (by simp) o q⟩
  item := by
    intro X hP hw hK hc i pins s σ H E I hf st hg
    subst hP hw hK
    obtain ⟨hz, hTI, ⟨x0, y0, hTO⟩, h1, h2⟩ := st
    obtain ⟨xs, ys, x, y, hqx, hqy, le1, hx, hy⟩ := hg
    obtain ⟨its, rv, p, _⟩ := I.tuple hqx
    obtain ⟨its2, rv2, p2, _⟩ := I.list hqy
    obtain ⟨u, hu, ru⟩ := rv.get hx
    obtain ⟨u2, hu2, ru2⟩ := rv2.get hy
    have hzl : z < s.heap.objs.size := Heap.lt_size hz
    have hh : X.A.in1.in1.handled = none := I.ok.hd hc
    have l1 : i < its.toArray.size := by have := (List.getElem?_eq_some_iff.mp hu).1; simpa using this
    have l2 : i < its2.toArray.size := by have := (List.getElem?_eq_some_iff.mp hu2).1; simpa using this
    refine wpAny_pyNext_zipD2_item (A := X.A) D (Draws.tuple (A := X.A.in1) hh i1 a na its.toArray) (Draws.list (A := X.A.in1) hh i2 b nb its2.toArray) hz hTI hTO ⟨h1, p⟩ ⟨h2, p2.isList⟩ l1 l2 fun x1 x2 h' tk e1 e2 z' TO' q1 q2 hT hsz hk => ?_
    obtain rfl : x1 = u := by
      have : its[i]? = some x1 := by simpa using e1
      rw [hu] at this; exact (Option.some.inj this).symm
    obtain rfl : x2 = u2 := by
      have : its2[i]? = some x2 := by simpa using e2
      rw [hu2] at this; exact (Option.some.inj this).symm
    refine ⟨_, rfl, wpAny_letOwnedTupleGo_zip (s := { s with heap := h', toks := tk }) z' fun h'' z'' sb => ?_⟩
    have hT2 : h''.get? s.heap.objs.size = some { cls := .type "tuple", data := .seq #[x1, x2] } := (sb.2 _ (Nat.ne_of_gt hzl)).trans hT
    have new : ObjOk X.prog X.w (upd H s.heap.objs.size (.tup [x, y])) h'' s.heap.objs.size (.tup [x, y]) :=
      ⟨by show 2 ≤ sizeLine; decide, [x1, x2], .cons ru (.cons ru2 .nil), ⟨_, hT2, rfl, _, rfl⟩⟩
    have I1 : Inv X pins σ (upd H s.heap.objs.size (.tup [x, y])) { s with heap := h'', toks := tk } :=
      I.turnedNew (t' := tk) (ch := [z, TI, TO, i1, i2]) (fun c o hb q => (sb.2 c (fun q' => hb (by simp [q']))).trans (hk c o (fun q' => hb (by simp [q'])) (fun q' => hb (by simp [q'])) (fun q' => hb (by simp [q'])) (fun q' => hb (by simp [q'])) q)) hf (Nat.le_refl _) new
    refine ⟨.ref s.heap.objs.size, _, I1, rfl, ⟨_, x, y, rfl, I.hok.fresh (Nat.le_refl _), rfl, fun l hl => by rw [I.tuple_inj hl hqx]; exact hx, fun l hl => by rw [I.list_inj hl hqy]; exact hy⟩, ⟨z'', ?_, ⟨x1, x2, ?_⟩, ?_, ?_⟩, fun e hcm => ?_⟩
    · exact (sb.2 _ D.TIz).trans (hk _ _ D.TIz D.TITO D.TIi1 D.TIi2 hTI)
    · exact (sb.2 _ D.TOz).trans TO'
    · exact q1.1.at fun o q => (sb.2 _ D.zi1.symm).trans q
    · exact q2.1.at fun o q => (sb.2 _ D.zi2.symm).trans q
    · have hlt : e < s.heap.objs.size := by
        have e' : e = z ∨ e = TI ∨ e = TO ∨ e = i1 ∨ e = i2 := by simpa using hcm
        rcases e' with q | q | q | q | q
        · rw [q]; exact hzl
        · rw [q]; exact Heap.lt_size hTI
        · rw [q]; exact Heap.lt_size hTO
        · rw [q]; obtain ⟨_, e1, _⟩ := h1; exact Heap.lt_size e1
        · rw [q]; obtain ⟨_, e2, _⟩ := h2; exact Heap.lt_size e2
      rw [upd_ne (Nat.ne_of_lt hlt)]
      exact (hf e hcm).1
  done := by
    intro X hP hw hK hc i pins s σ H E I hf st hg
    subst hP hw hK
    obtain ⟨hz, hTI, ⟨x0, y0, hTO⟩, h1, h2⟩ := st
    obtain ⟨xs, ys, hqx, hqy, lx, ly⟩ := hg
    obtain ⟨its, rv, p, _⟩ := I.tuple hqx
    obtain ⟨its2, rv2, p2, _⟩ := I.list hqy
    have l1 := rv.length
    have l2 := rv2.length
    have s1 : its.toArray.size = i := by simp; omega
    have s2 : its2.toArray.size = i := by simp; omega
    have hh : X.A.in1.in1.handled = none := I.ok.hd hc
    exact wpAny_pyNext_zipD2_end (A := X.A) D (Draws.tuple (A := X.A.in1) hh i1 a na its.toArray) (Draws.list (A := X.A.in1) hh i2 b nb its2.toArray) hz hTI hTO ⟨h1, p⟩ ⟨h2, p2.isList⟩ (by omega) (by omega) (.inl s1.symm)
      fun h' tk hk => ⟨rfl, I.turnedL (t' := tk) (ch := [z, TI, TO, i1, i2]) (fun c o hb q =>
      hk c o (fun q' => hb (by simp [q'])) (fun q' => hb (by simp [q'])) (fun q' => hb (by simp [q'])) (fun q' => hb (by simp [q'])) q) hf⟩
  self := fun A i s Q E st h => wpAny_pyIter_zip st.1 h
def iZipM (K : PySem.W.Frag) (ta : TA) : TI := fun σ H R => ta σ H fun vs H1 => ∃ a b xs ys, vs = [.ref a, .ref b] ∧ SqT K H1 a xs ∧ SqL K H1 b ys ∧ R (ItzM K a b) H1
theorem pi_zipM {X : Cx} {e e2 : Expr} {ta : TA} {p pos tpos : Pos} {elts : List Expr} {kk : Nat} (hg : Gl X "zip") (hm : X.mg "zip" = none) (ha : PA X [e, e2] ta)
    (hs : starEach [e, e2] X.env = (false, eval e X.env) :: starEach [e2] X.env := by rfl) (hpl : (backTo pos (starEach [e2] X.env)).any (·.1) = false := by rfl) :
    PI X (.Tuple elts kk tpos) (.Call (.Name "zip" p) [e, e2] [] pos) (iZipM X.K ta) := by
  refine ⟨fun pins s σ H R I h => ?_⟩
  refine Call_ (ld_blt I hg hm PyProof.Rows.boot_zip (PyProof.Rows.callWith_type1 (thn (ha.run pos pins s σ H _ I h) fun us s1 ⟨vs, H1, I1, r1, q1⟩ => ?_) hs hpl))
  obtain ⟨a, b, xs, ys, ex, hqx, hqy, q⟩ := q1
  subst ex
  cases r1 with
  | cons r rr =>
    cases rr with
    | cons r' rr =>
      cases rr
      cases r
      cases r'
      have fresh5 : ∀ c, c ∈ [s1.heap.objs.size + 4, s1.heap.objs.size + 2, s1.heap.objs.size + 3, s1.heap.objs.size, s1.heap.objs.size + 1] → FpOk X pins H1 c := fun c hcm => by
        have e' : c = s1.heap.objs.size + 4 ∨ c = s1.heap.objs.size + 2 ∨ c = s1.heap.objs.size + 3 ∨ c = s1.heap.objs.size ∨ c = s1.heap.objs.size + 1 := by simpa using hcm
        have hle : s1.heap.objs.size ≤ c := by
          rcases e' with z | z | z | z | z <;> rw [z] <;> first | exact Nat.le_refl _ | exact Nat.le_add_right _ _
        exact I1.fpOk hle (I1.hok.fresh hle)
      obtain ⟨its, rv, p1, _⟩ := I1.tuple hqx
      obtain ⟨its2, rv2, p2, _⟩ := I1.list hqy
      have la : @LT.lt Nat _ a s1.heap.objs.size := by obtain ⟨_, e, _⟩ := id p1; exact Heap.lt_size e
      have lb : @LT.lt Nat _ b s1.heap.objs.size := p2.lt
      refine zip_begins2 (begins_tuple a its.toArray) (begins_list b its2.toArray) p1 p2.isList fun h' hz hTI hTO h1 h2 hsz hk => wpAny_pyIter_zip hz ?_
      have I2 : Inv X pins σ H1 { s1 with heap := h' } := I1.kept (t' := s1.toks) hk
      have ap : ZipSep2 (s1.heap.objs.size + 4) (s1.heap.objs.size + 2) (s1.heap.objs.size + 3) s1.heap.objs.size (s1.heap.objs.size + 1) [s1.heap.objs.size, a] [s1.heap.objs.size + 1, b] := by
        refine ⟨?_, ?_, ?_, ?_, ?_, ?_, ?_, ?_, ?_, ?_, ?_, ?_, ?_⟩
        all_goals first
          | exact List.mem_cons_self ..
          | (intro h; have h2 : @Eq Nat _ _ := h; omega)
          | (intro h; rcases List.mem_cons.mp h with h | h
             · have h2 : @Eq Nat _ _ := h; omega
             · have h2 : @Eq Nat _ _ := List.mem_singleton.mp h; omega)
      exact ⟨s1.heap.objs.size + 4, [s1.heap.objs.size + 4, s1.heap.objs.size + 2, s1.heap.objs.size + 3, s1.heap.objs.size, s1.heap.objs.size + 1], _, _, H1, rfl, I2, turn_zipM ap (fun e => by have h2 : @Eq Nat _ _ := e; omega) (fun e => by have h2 : @Eq Nat _ _ := e; omega), ⟨hz, hTI, ⟨_, _, hTO⟩, ⟨_, h1, rfl, rfl⟩, ⟨_, h2, rfl, rfl⟩⟩, fresh5, q⟩
theorem for_zipM {K : PySem.W.Frag} {a b : Addr} {xs ys : List V} {g : TG} {tb : TS} {D : Ends} {σ : L2.St} {H : Hp} (hl : xs.length = ys.length) (Pv : Nat → L2.St → Hp → Prop) (h0 : Pv 0 σ H) (hq : ∀ i σ H, Pv i σ H → SqT K H a xs ∧ SqL K H b ys)
    (hs : ∀ (i : Nat) (x y : V) (T : Addr) (σ : L2.St) (H : Hp), xs[i]? = some x → ys[i]? = some y → Pv i σ H → H T = none → g (.ref T) σ (upd H T (.tup [x, y])) fun σ2 H2 => tb { D with nx := Pv (i + 1), ct := Pv (i + 1), bk := D.nx } σ2 H2) (hd : ∀ σ H, Pv xs.length σ H → D.nx σ H) :
    ∃ W : Nat → Nat → L2.St → Hp → Prop, (∃ m, W 0 m σ H) ∧ ∀ i m σ H, W i m σ H →
      ((ItzM K a b).stop i H ∧ D.nx σ H) ∨ ((ItzM K a b).go i H ∧ ∃ N : L2.St → Hp → Prop, (∀ σ' H', N σ' H' → ∃ m', m' < m ∧ W (i + 1) m' σ' H') ∧ ∀ v H', (ItzM K a b).yld i H v H' → g v σ H' fun σ2 H2 => tb { D with nx := N, ct := N, bk := D.nx } σ2 H2) := by
  refine ⟨fun i m σ H => m = xs.length - i ∧ i ≤ xs.length ∧ Pv i σ H, ⟨xs.length, rfl, Nat.zero_le _, h0⟩, ?_⟩
  rintro i m σ H ⟨rfl, hi, p⟩
  obtain ⟨qx, qy⟩ := hq i σ H p
  by_cases hlt : i < xs.length
  · have hx : xs[i]? = some xs[i] := List.getElem?_eq_getElem hlt
    have hlt2 : i < ys.length := by omega
    have hy : ys[i]? = some ys[i] := List.getElem?_eq_getElem hlt2
    refine .inr ⟨⟨xs, ys, _, _, qx, qy, hl, hx, hy⟩, Pv (i + 1), fun σ' H' p' => ⟨xs.length - (i + 1), by omega, rfl, hlt, p'⟩, fun v H' y => ?_⟩
    obtain ⟨T, x', y', rfl, hT, rfl, f1, f2⟩ := y
    exact hs i x' y' T σ H (f1 xs qx) (f2 ys qy) p hT
  · have e : i = xs.length := by omega
    subst e
    exact .inl ⟨⟨xs, ys, qx, qy, rfl, hl.symm⟩, hd σ H p⟩
end ZM

namespace M60
open PySem PySem.Spec PyProof.Rows L2 SX Own Gd
open C8 (Cal pe_c pe_gc pe_mk Mak pss_cut)
open M12 (Sn ld net Pos ld_nn cov lb lb_le lb_step lb_nil)
/-- what bench_draws tells, to the letter -/
def ToldV (k : Nat) (H : Hp) (v : V) (x : Wish) (bx : Bx) : Prop := ∃ fs gs, IsLows (wsOf x.jobs bx) fs ∧ IsLows (bw (wsOf x.jobs bx)) gs ∧
  ((leafB false (wsOf x.jobs bx) x.size = true ∧ ∃ p lf L, v = .ref p ∧ H p = some (.tup [.str "leaf", lf]) ∧ LfV k H lf L ∧ LeafX (wsOf x.jobs bx) x.size fs L) ∨
   (leafB false (wsOf x.jobs bx) x.size = false ∧ ∃ p ds, v = .ref p ∧ H p = some (.tup ds) ∧ All2 (DrV k H) ds (drawsG x.jobs (wsOf x.jobs bx) (startG (wsOf x.jobs bx) x.size fs) (startG (bw (wsOf x.jobs bx)) x.size gs) x.jobs.length)))
theorem ToldV.tk {k : Nat} {H H' : Hp} {v : V} {x : Wish} {bx : Bx} (h : ToldV k H v x bx) (s : TK H H') : ToldV k H' v x bx := by
  obtain ⟨fs, gs, h1, h2, h3⟩ := h
  refine ⟨fs, gs, h1, h2, ?_⟩
  rcases h3 with ⟨e, p, lf, L, ev, hp, lv, lx⟩ | ⟨e, p, ds, ev, hp, dv⟩
  · exact .inl ⟨e, p, lf, L, ev, s _ _ hp, lv.tk s, lx⟩
  · exact .inr ⟨e, p, ds, ev, s _ _ hp, drTk s dv⟩
theorem leafX_ok {ws : List Wd} {z : Int} (ok : WsOk ws z) (z0 : 0 ≤ z) {fs : List Int} {L : Lf} (h : LeafX ws z fs L) : LfOk ws z L ∧ lfRoom L = false := by
  rcases h with ⟨j, l, lf, rfl⟩ | ⟨_, f, l, e, rfl⟩
  · exact ⟨⟨lf.1, lf.2.1, lf.2.2.1⟩, rfl⟩
  · obtain ⟨h1, h2⟩ := loadX_some ok e
    exact ⟨⟨List.pairwise_lt_range.filter _, fun a ha => inL_mem.mp ha, h1, h2⟩, rfl⟩
/-- a draw that is due, as the law's own item -/
def DuV (H : Hp) (v : V) (e : Du) : Prop := ∃ p pp, v = .ref p ∧ H p = some (.tup [.int e.1.1.1, .int e.1.1.2.1, .int e.1.1.2.2, .int (e.2.1 : Int), .ref pp]) ∧ H pp = some (.tup [.int e.2.2.1, .int e.2.2.2])
theorem DuV.tk {H H' : Hp} {v : V} {e : Du} (h : DuV H v e) (s : TK H H') : DuV H' v e := by
  obtain ⟨p, pp, ev, f, g⟩ := h
  exact ⟨p, pp, ev, s _ _ f, s _ _ g⟩
theorem duTk {H H' : Hp} (s : TK H H') {us : List V} {es : List Du} (h : All2 (DuV H) us es) : All2 (DuV H') us es := h.mono fun _ _ g => g.tk s
theorem WV.jobs {H : Hp} {v : V} {x : Wish} (h : WV H v x) (hJ : x.isJ = true) : ∃ p xs pj us, v = .ref p ∧ H p = some (.tup xs) ∧ xs[1]? = some (.ref pj) ∧ H pj = some (.tup us) ∧ us.length = x.jobs.length ∧ ∀ i, i < x.jobs.length → ∃ q r, us[i]? = some (.ref q) ∧ H q = some (.tup (.int ((jA x.jobs i).1 : Int) :: r)) := by
  cases x with
  | unlike a => cases hJ
  | bench js =>
    obtain ⟨p, pj, us, rfl, hp, hpj, lv⟩ := h
    refine ⟨p, _, pj, us, rfl, hp, rfl, hpj, lv.len, fun i hi_ => ?_⟩
    have hi_ : i < js.length := hi_
    obtain ⟨vb, hb, q, rfl, hq⟩ := lv.at2 (List.getElem?_eq_getElem hi_)
    refine ⟨q, [.int js[i].2.1], hb, ?_⟩
    show _ = some (HO.tup (.int ((jA js i).1 : Int) :: _))
    rw [jA_at hi_]; exact hq
  | room js z =>
    obtain ⟨p, pj, us, rfl, hp, hpj, lv⟩ := h
    refine ⟨p, _, pj, us, rfl, hp, rfl, hpj, lv.len, fun i hi_ => ?_⟩
    have hi_ : i < js.length := hi_
    obtain ⟨vb, hb, q, rfl, hq⟩ := lv.at2 (List.getElem?_eq_getElem hi_)
    refine ⟨q, [.int js[i].2.1, .int js[i].2.2], hb, ?_⟩
    show _ = some (HO.tup (.int ((jA js i).1 : Int) :: _))
    rw [jA_at hi_]; exact hq
theorem up_cases {ws : List Wd} {z : Int} (ok : WsOk ws z) (z0 : 0 < z) (nl : leafB false ws z = false) {fs : List Int} (il : IsLows ws fs) {j : Nat} (hj : j < ws.length) (p : Nat) :
    (∃ s L, upI ws z false j (hi ws j - lo ws j).toNat = some s ∧ du0 p j (gW ws j) (startG ws z fs j) = [(((p, 0, s), L), (j, (lo ws j, s - 1)))] ∧ lo ws j < s ∧ s ≤ hi ws j) ∨ (upI ws z false j (hi ws j - lo ws j).toNat = none ∧ du0 p j (gW ws j) (startG ws z fs j) = []) := by
  have o := ok.ord j hj
  have eN : hi ws j - ((hi ws j - lo ws j).toNat : Int) = lo ws j := by omega
  have fst := startG_fst (z := z) il j
  have mx := mxO_is (startC false ws z j)
  unfold upI
  rw [← fst] at mx ⊢
  rw [eN]
  cases eg : startG ws z fs j with
  | none => exact .inr ⟨rfl, rfl⟩
  | some x =>
    rw [eg] at mx
    have h1 := start_hi ok z0 false nl hj mx.1
    have h1 : x.1 ≤ hi ws j := h1
    by_cases c : lo ws j < x.1
    · refine .inl ⟨x.1, x.2, by show (if lo ws j < x.1 then some x.1 else none) = _; rw [if_pos c], ?_, c, h1⟩
      unfold du0; dsimp only
      rw [if_pos (show (gW ws j).1 < x.1 from c)]; rfl
    · refine .inr ⟨by show (if lo ws j < x.1 then some x.1 else none) = _; rw [if_neg c], ?_⟩
      unfold du0; dsimp only
      rw [if_neg (show ¬ (gW ws j).1 < x.1 from c)]
theorem dn_cases {ws : List Wd} {z : Int} (ok : WsOk ws z) (z0 : 0 < z) (nl : leafB false ws z = false) {fs gs : List Int} (il : IsLows ws fs) (ig : IsLows (bw ws) gs) {j : Nat} (hj : j < ws.length) (p : Nat) :
    (∃ d, dnI ws z false j (hi ws j - lo ws j).toNat = some d ∧ lo ws j ≤ d ∧ d < hi ws j ∧
      ((∃ L, du1 p j (gW ws j) (startG ws z fs j) (startG (bw ws) z gs j) = [(((p, 1, d), L), (j, (d + 1, hi ws j)))] ∧ ∀ s, upI ws z false j (hi ws j - lo ws j).toNat = some s → s ≤ d) ∨
       (du1 p j (gW ws j) (startG ws z fs j) (startG (bw ws) z gs j) = [] ∧ ∃ s, upI ws z false j (hi ws j - lo ws j).toNat = some s ∧ d < s))) ∨
    (dnI ws z false j (hi ws j - lo ws j).toNat = none ∧ du1 p j (gW ws j) (startG ws z fs j) (startG (bw ws) z gs j) = []) := by
  have o := ok.ord j hj
  have eN : lo ws j + ((hi ws j - lo ws j).toNat : Int) = hi ws j := by omega
  have eN2 : hi ws j - ((hi ws j - lo ws j).toNat : Int) = lo ws j := by omega
  have fst := startG_fst (z := z) ig j
  have fst1 := startG_fst (z := z) il j
  have mx := mxO_is (startC false (bw ws) z j)
  unfold dnI upI
  rw [← fst] at mx ⊢
  rw [← fst1]
  rw [eN, eN2]
  cases eg : startG (bw ws) z gs j with
  | none => exact .inr ⟨rfl, rfl⟩
  | some x =>
    rw [eg] at mx
    have h1 := start_hi (bw_ok ok) z0 false (by rw [leaf_bw ok (by omega)]; exact nl) (by rw [bw_len]; exact hj) mx.1
    have h1 : x.1 ≤ hi (bw ws) j := h1
    rw [bw_hi hj] at h1
    have eL : lowJG (gW ws j) (startG ws z fs j) = lowJ (gW ws j) ((startG ws z fs j).map Prod.fst) := rfl
    by_cases c : -x.1 - ln ws j < hi ws j
    · refine .inl ⟨-x.1 - ln ws j, by show (if -x.1 - ln ws j < hi ws j then some (-x.1 - ln ws j) else none) = _; rw [if_pos c], by omega, c, ?_⟩
      unfold du1; dsimp only
      by_cases c2 : lowJG (gW ws j) (startG ws z fs j) ≤ -x.1 - ln ws j
      · refine .inl ⟨lfB x.2, ?_, fun s hs => ?_⟩
        · rw [if_pos (show lowJG (gW ws j) (startG ws z fs j) ≤ -x.1 - (gW ws j).2.2.1 ∧ -x.1 - (gW ws j).2.2.1 < (gW ws j).2.1 from ⟨c2, c⟩)]; rfl
        · rw [eL] at c2
          cases e2 : startG ws z fs j with
          | none => rw [e2] at hs; cases hs
          | some y =>
            rw [e2] at hs c2
            have hs : (if lo ws j < y.1 then some y.1 else none) = some s := hs
            have c2 : (if lo ws j < y.1 then y.1 else lo ws j) ≤ -x.1 - ln ws j := c2
            by_cases g : lo ws j < y.1
            · rw [if_pos g] at hs c2; cases hs; exact c2
            · rw [if_neg g] at hs; cases hs
      · refine .inr ⟨?_, ?_⟩
        · rw [if_neg (show ¬ (lowJG (gW ws j) (startG ws z fs j) ≤ -x.1 - (gW ws j).2.2.1 ∧ -x.1 - (gW ws j).2.2.1 < (gW ws j).2.1) from fun h => c2 h.1)]
        · rw [eL] at c2
          cases e2 : startG ws z fs j with
          | none =>
            rw [e2] at c2
            have c2 : ¬ lo ws j ≤ -x.1 - ln ws j := c2
            omega
          | some y =>
            rw [e2] at c2
            have c2 : ¬ (if lo ws j < y.1 then y.1 else lo ws j) ≤ -x.1 - ln ws j := c2
            by_cases g : lo ws j < y.1
            · rw [if_pos g] at c2
              exact ⟨y.1, by show (if lo ws j < y.1 then some y.1 else none) = _; rw [if_pos g], by omega⟩
            · rw [if_neg g] at c2; omega
    · refine .inr ⟨by show (if -x.1 - ln ws j < hi ws j then some (-x.1 - ln ws j) else none) = _; rw [if_neg c], ?_⟩
      unfold du1; dsimp only
      rw [if_neg (show ¬ (lowJG (gW ws j) (startG ws z fs j) ≤ -x.1 - (gW ws j).2.2.1 ∧ -x.1 - (gW ws j).2.2.1 < (gW ws j).2.1) from fun h => c h.2)]
theorem due_put {H5 : Hp} {d0 pp po : Addr} {ys : List V} {E0 : List Du} {e : Du} (dv : All2 (DuV H5) ys E0) (hd : H5 d0 = some (.lst ys)) (np : H5 pp = none) (no : upd H5 pp (.tup [.int e.2.2.1, .int e.2.2.2]) po = none) :
    Same H5 (upd (upd H5 pp (.tup [.int e.2.2.1, .int e.2.2.2])) po (.tup [.int e.1.1.1, .int e.1.1.2.1, .int e.1.1.2.2, .int (e.2.1 : Int), .ref pp])) ∧
    upd (upd H5 pp (.tup [.int e.2.2.1, .int e.2.2.2])) po (.tup [.int e.1.1.1, .int e.1.1.2.1, .int e.1.1.2.2, .int (e.2.1 : Int), .ref pp]) d0 = some (.lst ys) ∧
    All2 (DuV (upd (upd (upd H5 pp (.tup [.int e.2.2.1, .int e.2.2.2])) po (.tup [.int e.1.1.1, .int e.1.1.2.1, .int e.1.1.2.2, .int (e.2.1 : Int), .ref pp])) d0 (.lst (ys ++ [.ref po])))) (ys ++ [.ref po]) (E0 ++ [e]) := by
  have k1 := same_upd (o := .tup [.int e.2.2.1, .int e.2.2.2]) np
  have k2 := same_upd (o := .tup [.int e.1.1.1, .int e.1.1.2.1, .int e.1.1.2.2, .int (e.2.1 : Int), .ref pp]) no
  have h1 : upd H5 pp (.tup [.int e.2.2.1, .int e.2.2.2]) pp = _ := upd_same
  have h2 : upd (upd H5 pp (.tup [.int e.2.2.1, .int e.2.2.2])) po (.tup [.int e.1.1.1, .int e.1.1.2.1, .int e.1.1.2.2, .int (e.2.1 : Int), .ref pp]) po = _ := upd_same
  have ko := k1.trans k2
  have hd6 := ko _ _ hd
  exact ⟨ko, hd6, duTk (TK.put hd6) ((duTk (TK.of ko) dv).app ⟨po, pp, rfl, h2, k2 _ _ h1⟩)⟩
def d3 (d : Dr) : PyData := .tuple [.int d.1, .int d.2.1, .int d.2.2]
def D3V (H : Hp) (v : V) (d : Dr) : Prop := ∃ p, v = .ref p ∧ H p = some (.tup [.int d.1, .int d.2.1, .int d.2.2])
theorem d3Tk {H H' : Hp} (s : TK H H') {us : List V} {ds : List Dr} (h : All2 (D3V H) us ds) : All2 (D3V H') us ds := h.mono fun _ _ ⟨p, e, f⟩ => ⟨p, e, s _ _ f⟩
theorem d3_dp {K : PySem.W.Frag} {H : Hp} : ∀ {vs : List V} {ds : List Dr}, All2 (D3V H) vs ds → DpAll K H vs (ds.map d3)
  | _, _, .nil => .nil
  | _, _, .cons ⟨_, e, f⟩ t => by subst e; exact .cons (.tup (sq_tup f) (.cons (.int _) (.cons (.int _) (.cons (.int _) .nil)))) (d3_dp t)
theorem d3_shw {ds : List Dr} (h : ∀ d ∈ ds, d.1 ≤ 1000 ∧ -1000 ≤ d.2.1 ∧ d.2.1 ≤ 1000 ∧ -1000 ≤ d.2.2 ∧ d.2.2 ≤ 1000) (l : ds.length ≤ 100) : ShT.Shw 60 1000000 (.list (ds.map d3)) := by
  refine (ShT.Shw.lst (k := 1) (W := 41 * 3) (n := 100) (fun d hd => ?_) (by rw [List.length_map]; exact l)).mono (by decide) (by decide)
  obtain ⟨x, hx, rfl⟩ := List.mem_map.mp hd
  obtain ⟨h1, h2, h3, h4, h5⟩ := h x hx
  refine ShT.Shw.tup (k := 0) (W := 40) (n := 3) (fun e he => ?_) (Nat.le_refl _)
  simp only [List.mem_cons, List.mem_nil_iff, or_false] at he
  rcases he with rfl | rfl | rfl <;> exact ShT.Shw.int (by omega)
abbrev rLenQ (K : PySem.W.Frag) : List V → Hp → VK → Prop := fun xs H Q => ∃ p ys, xs = [V.ref p] ∧ (SqL K H p ys ∨ SqT K H p ys) ∧ Q (V.int (ys.length : Nat)) H
section
variable {P : Program} {w : World} {K : PySem.W.Frag} {mg : Str → Option Value} {base : Heap} {aW aT : Addr} {es : Array DictEntry} {nn : Nat}
abbrev s_Ldrawn_right : Stmt := topS 113
abbrev n_Ldrawn_right : List Str := ["task", "k", "box", "moments", "told", "wish", "windows", "size", "due", "j", "up", "down", "low", "high", "draw", "item", "place", "side", "value", "pair"]
theorem sc_Ldrawn_right : FnScope n_Ldrawn_right ["task", "k", "box", "moments", "told"] (defScope s_Ldrawn_right) := ⟨rfl, rfl, rfl, by decide +kernel, rfl, by decide +kernel, by decide +kernel⟩
def spDrR (C : Addr) : Sp := fun vs H Q _ => ∃ (tv bv told : V) (k n : Nat) (x : Wish) (bx : Bx), vs = [tv, .int k, bv, .bl false, told] ∧ k ≤ 1000 ∧ TwB C H tv bv k n x bx ∧ BxOk bx ∧ (∀ r ∈ bx, -1000 ≤ r.1 ∧ r.2 ≤ 1000) ∧ n ≤ 100 ∧ ToldV k H told x bx ∧ ∀ H', Same H H' → Q (.bl true) H'
theorem ok_Ldrawn_right {f C : Addr} {fd : FuncData} (F : Fun K "_law_drawn_right" "_law_drawn_right" s_Ldrawn_right f fd) (T : Txt K mg w aW aT es nn) (cc : CC K C) (c_Lwindows : Cal P w K mg base 1 "_law_windows" spLWin []) (c_Lshown : Cal P w K mg base 2 "_law_shown" spShL []) (c_Lleaf_right : CalG P w K mg base 2 "_law_leaf_right" spLfR) (c_leaf_holds : Cal P w K mg base 6 "leaf_holds" (spLfH C) []) (c_Lfarthest : Cal P w K mg base 3 "_law_farthest" spFaL []) (c_Lchanged : Cal P w K mg base 1 "_law_changed" spChL []) : FnG P w K mg base CX0 7 f fd ["task", "k", "box", "moments", "told"] (spDrR C) := by
  refine fun_okG F sc_Ldrawn_right (fun vs H Q E h => ?_) (fun cdv A outer s0 H vs Q E hgd hr h => ?_)
  · obtain ⟨tv, bv, told, k, n, x, bx, rfl, _⟩ := h
    rfl
  · obtain ⟨tv, bv, told, k, n, y, bx, rfl, kb, tw, bo, bb, n100, tdv, q⟩ := h
    obtain ⟨⟨ul, wl, goal, ⟨x, dx, pu, pw, pg, us, wsv, rfl, hx, hpu, uv, hpw, wv, hpg⟩, hk, en⟩, ok, hJ, bv_, bl⟩ := id tw
    obtain ⟨vw, hwk, wvk⟩ := wv.at2 hk
    have wj := ok.wj hJ
    have wb := wsb_of wj bo bl
    have lws := ws_len y.jobs bx
    have few := wb.few
    have z1 := wb.z1
    generalize hW : wsOf y.jobs bx = ws at *
    refine ⟨_, (pss_cons (ps_set (i := 5) sc_Ldrawn_right.nd rfl (.inl rfl) (pe_ix ix_tup (pe_fld (pv 0) (by rfl)) (pv 1) (fun _ _ => rfl)))
      (pss_cut (ps_asg (pe_c c_Lwindows hr (by decide) (by rfl) (pa_cons (pv 5) (pa_cons (pv 2) pa_nil))) (pg_tup rfl (pgs_cons (pg_name (i := 6) sc_Ldrawn_right.nd rfl (.inl rfl)) (pgs_cons (pg_name (i := 7) sc_Ldrawn_right.nd rfl (.inl rfl)) pgs_nil))))
      (pss_cons (ps_if (pt_not (pt_val (pe_callB call_isE (by rfl) T.b_isinstance (by decide +kernel) (pa_cons (pv 4) (pa_cons (pe_bltn (v := .ty "tuple") (by rfl) T.b_tuple boot_tuple rfl) pa_nil))))) (pss_one (ps_ret pe_bl)) pss_nil)
      (pss_cons (ps_if (pt_val (pe_c c_Lshown hr (by decide) (by rfl) (pa_cons (pv 6) (pa_cons (pv 7) (pa_cons (pv 3) pa_nil))))) (pss_cons (ps_if (PW.pt (pw_or (pt_cmpR op_ne (pe_callB call_len_seq (by rfl) T.b_len (by decide +kernel) (pa_cons (pv 4) pa_nil)) pe_int (nomark _)) (pw_or (pt_cmpR op_ne (pe_ix ix_tup (pv 4) pe_int (fun _ _ => rfl)) pe_str (nomark _)) (pw_or1 (pt_not (pt_val (pe_cG hgd c_Lleaf_right hr (by decide) (by rfl) (pa_cons (pe_ix ix_tup (pv 4) pe_int (fun _ _ => rfl)) (pa_cons (pv 1) (pa_cons (pv 6) (pa_cons (pv 7) (pa_cons (pv 3) pa_nil)))))))))))) (pss_one (ps_ret pe_bl)) pss_nil)
        (pss_one (ps_ret (pe_cmpR op_is_bl (pe_c c_leaf_holds hr (by decide) (by rfl) (pa_cons (pv 0) (pa_cons (pe_tup pa_nil) (pa_cons (pv 2) (pa_cons (pe_ix ix_tup (pv 4) pe_int (fun _ _ => rfl)) (pa_cons pe_non pa_nil)))))) pe_bl (by rfl))))) pss_nil)
      (pss_cons (ps_set (i := 8) sc_Ldrawn_right.nd rfl (.inl rfl) (pe_lst pa_nil))
      (pss_cut (ps_for PassesOwn.never rfl (pi_range1 (by rfl) T.b_range (pa_cons (pe_callB call_len_seq (by rfl) T.b_len (by decide +kernel) (pa_cons (pv 6) pa_nil)) pa_nil)) (pg_name (i := 9) sc_Ldrawn_right.nd rfl (.inl rfl)) (pss_cons (ps_asg (pe_c c_Lfarthest hr (by decide) (by rfl) (pa_cons (pv 6) (pa_cons (pv 7) (pa_cons (pv 9) (pa_cons (pv 3) pa_nil))))) (pg_tup rfl (pgs_cons (pg_name (i := 10) sc_Ldrawn_right.nd rfl (.inl rfl)) (pgs_cons (pg_name (i := 11) sc_Ldrawn_right.nd rfl (.inl rfl)) pgs_nil))))
        (pss_cons (ps_par (i := 12) (j := 13) (by rfl) sc_Ldrawn_right.nd rfl rfl (by decide) rfl rfl (pa_cons (pe_ix ix_tup (pe_ix ix_list (pv 6) (pv 9) (fun _ _ => rfl)) pe_int (fun _ _ => rfl)) (pa_cons (pe_ix ix_tup (pe_ix ix_list (pv 6) (pv 9) (fun _ _ => rfl)) pe_int (fun _ _ => rfl)) pa_nil)) (by rfl))
        (pss_cut (ps_if (pt_cmpR op_notN (pv 10) pe_non (nomark _)) (pss_one (ps_expr (pe_bm PySem.F.plainAttrs_list PySem.F.slot_list_append PySem.F.type_list_append mt_append (pv 8) (pa_cons (pe_tup (pa_cons (pe_ix ix_tup (pe_ix ix_tup (pe_ix ix_tup (pv 5) pe_int (fun _ _ => rfl)) (pv 9) (fun _ _ => rfl)) pe_int (fun _ _ => rfl)) (pa_cons pe_int (pa_cons (pv 10) (pa_cons (pv 9) (pa_cons (pe_tup (pa_cons (pv 12) (pa_cons (pe_op op_sub (pv 10) pe_int) pa_nil))) pa_nil)))))) pa_nil)))) pss_nil)
        (pss_one (ps_if (PW.pt (pw_and (pt_cmpR op_notN (pv 11) pe_non (nomark _)) (pw_and1 (PW.pt (pw_or (pt_cmpR op_isN (pv 10) pe_non (nomark _)) (pw_or1 (pt_cmpR op_le (pv 10) (pv 11) (nomark _)))))))) (pss_one (ps_expr (pe_bm PySem.F.plainAttrs_list PySem.F.slot_list_append PySem.F.type_list_append mt_append (pv 8) (pa_cons (pe_tup (pa_cons (pe_ix ix_tup (pe_ix ix_tup (pe_ix ix_tup (pv 5) pe_int (fun _ _ => rfl)) (pv 9) (fun _ _ => rfl)) pe_int (fun _ _ => rfl)) (pa_cons pe_int (pa_cons (pv 11) (pa_cons (pv 9) (pa_cons (pe_tup (pa_cons (pe_op op_add (pv 11) pe_int) (pa_cons (pv 13) pa_nil))) pa_nil)))))) pa_nil)))) pss_nil))))))
      (pss_cut (ps_if (PW.pt (pw_or (pt_cmpR op_ne (pe_callB (ShT.call_showX hgd hr.units) (by rfl) T.b_repr (by decide +kernel) (pa_cons (pe_lc (own := [("draw", 14)]) rfl sc_Ldrawn_right.nd (pi_tup (pv 4)) (blkOk_by (N := n_Ldrawn_right) (sc := defScope s_Ldrawn_right) (by decide +kernel)) (fun _ _ _ _ _ => (pg_name (i := 14) sc_Ldrawn_right.nd rfl (.inl rfl))) (fun _ _ _ _ _ => pts_nil) (fun _ _ _ _ _ => (pe_slice (r := rSlA K) sl_tupA (pv 14) po_none (po_some pe_int)))) pa_nil)) (pe_callB (ShT.call_showX hgd hr.units) (by rfl) T.b_repr (by decide +kernel) (pa_cons (pe_lc (own := [("item", 15)]) rfl sc_Ldrawn_right.nd (pi_list (pv 8)) (blkOk_by (N := n_Ldrawn_right) (sc := defScope s_Ldrawn_right) (by decide +kernel)) (fun _ _ _ _ _ => (pg_name (i := 15) sc_Ldrawn_right.nd rfl (.inl rfl))) (fun _ _ _ _ _ => pts_nil) (fun _ _ _ _ _ => (pe_slice (r := rSlA K) sl_tupA (pv 15) po_none (po_some pe_int)))) pa_nil)) (nomark _)) (pw_or1 (pt_not (pt_val (pe_callB (cr_all rfl) (by rfl) T.b_all (by decide +kernel) (pa_cons (pe_lc (own := [("draw", 14)]) rfl sc_Ldrawn_right.nd (pi_tup (pv 4)) (blkOk_by (N := n_Ldrawn_right) (sc := defScope s_Ldrawn_right) (by decide +kernel)) (fun _ _ _ _ _ => (pg_name (i := 14) sc_Ldrawn_right.nd rfl (.inl rfl))) (fun _ _ _ _ _ => pts_nil) (fun _ _ _ _ _ => (pe_cmpR op_eq (pe_callB (id := "len") (r := rLenQ K) call_len_seq (by rfl) T.b_len (by decide +kernel) (pa_cons (pv 14) pa_nil)) pe_int (nomark _)))) pa_nil))))))) (pss_one (ps_ret pe_bl)) pss_nil)
      (pss_cut (ps_for PassesOwn.never rfl (ZM.pi_zipM (by rfl) T.b_zip (pa_cons (pv 4) (pa_cons (pv 8) pa_nil))) (pg_tup rfl (pgs_cons (pg_name (i := 14) sc_Ldrawn_right.nd rfl (.inl rfl)) (pgs_cons (pg_name (i := 15) sc_Ldrawn_right.nd rfl (.inl rfl)) pgs_nil))) (pss_cons (ps_asg (pv 15) (pg_tup rfl (pgs_cons (pg_name (i := 16) sc_Ldrawn_right.nd rfl (.inl rfl)) (pgs_cons (pg_name (i := 17) sc_Ldrawn_right.nd rfl (.inl rfl)) (pgs_cons (pg_name (i := 18) sc_Ldrawn_right.nd rfl (.inl rfl)) (pgs_cons (pg_name (i := 9) sc_Ldrawn_right.nd rfl (.inl rfl)) (pgs_cons (pg_name (i := 19) sc_Ldrawn_right.nd rfl (.inl rfl)) pgs_nil)))))))
        (pss_cons (ps_if (pt_not (pt_val (pe_cG hgd c_Lleaf_right hr (by decide) (by rfl) (pa_cons (pe_ix ix_tup (pv 14) pe_int (fun _ _ => rfl)) (pa_cons (pv 1) (pa_cons (pe_c c_Lchanged hr (by decide) (by rfl) (pa_cons (pv 6) (pa_cons (pv 9) (pa_cons (pe_ix ix_tup (pv 19) pe_int (fun _ _ => rfl)) (pa_cons (pe_ix ix_tup (pv 19) pe_int (fun _ _ => rfl)) pa_nil))))) (pa_cons (pv 7) (pa_cons (pv 3) pa_nil)))))))) (pss_one (ps_ret pe_bl)) pss_nil)
        (pss_one (ps_if (pt_cmpR op_isnot_bl (pe_c c_leaf_holds hr (by decide) (by rfl) (pa_cons (pv 0) (pa_cons (pe_tup pa_nil) (pa_cons (pe_op op_catA (pe_op op_catA (pe_slice sl_tupA (pv 2) po_none (po_some (pv 16))) (pe_tup (pa_cons (pv 19) pa_nil))) (pe_slice sl_tupA (pv 2) (po_some (pe_op op_add (pv 16) pe_int)) po_none)) (pa_cons (pe_ix ix_tup (pv 14) pe_int (fun _ _ => rfl)) (pa_cons pe_non pa_nil)))))) pe_bl (by rfl)) (pss_one (ps_ret pe_bl)) pss_nil)))))
      (pss_one (ps_ret pe_bl)))))))))), ?_⟩
    refine ⟨_, rfl, x, C, dx, _, _, rfl, hx, cc.cl, cc.nw, lk_w _ _ _, _, rfl, pw, _, _, _, rfl, rfl, sq_tup hpw, atI_nat hwk, ?_⟩
    refine ⟨fun σ H' => ∃ vws, σ = [some (.ref x), some (.int (k : Nat)), some bv, some (.bl false), some told, some vw, some vws, some (.int y.size), none, none, none, none, none, none, none, none, none, none, none, none] ∧ Same H H' ∧ LwV H' vws ws, ?_, fun σ H1 hM => ?_⟩
    · refine ⟨_, rfl, _, rfl, vw, bv, n, y, bx, rfl, wvk, hJ, ok, bv_, bl, fun p v' H1 s1 hp lw1 => ?_⟩
      rw [hW] at lw1
      exact ⟨p, _, rfl, sq_tup hp, rfl, _, _, rfl, _, _, rfl, rfl, v', rfl, s1, lw1⟩
    obtain ⟨vws, rfl, s1, lw1⟩ := hM
    obtain ⟨pt, xst, rfl, hpt⟩ : ∃ pt xst, told = .ref pt ∧ H pt = some (.tup xst) := by
      obtain ⟨fs, gs, _, _, ⟨_, p, lf, L, ev, hp, _⟩ | ⟨_, p, ds, ev, hp, _⟩⟩ := tdv
      · exact ⟨p, _, ev, hp⟩
      · exact ⟨p, _, ev, hp⟩
    have hpt1 := s1 _ _ hpt
    refine ⟨_, rfl, .ref pt, .type "tuple", "tuple", true, rfl, .base (.base (.tup hpt1)), by rfl, true, rfl, iteF ?_⟩
    refine ⟨_, rfl, _, rfl, _, rfl, vws, ws, y.size, false, rfl, lw1, wb, fun H2 s2 => ?_⟩
    have lw2 := lw1.tk s2
    have s02 := s1.trans s2
    obtain ⟨fs, gs, il, ig, ⟨nl, pt', lf, L, ev, hpl, lv, lx⟩ | ⟨nl, pt', ds, ev, hpl, dv⟩⟩ := tdv
    · cases ev
      rw [hW] at nl il ig lx
      have hpt2 := s02 _ _ hpl
      obtain ⟨lo_, rm⟩ := leafX_ok wb.ok (by omega) lx
      refine ⟨_, rfl, iteT' nl ?_⟩
      refine ⟨_, rfl, pt, _, rfl, .inr (sq_tup hpt2), rfl, _, rfl, iteF' (by simp) ?_⟩
      refine ⟨_, rfl, pt, _, 0, _, rfl, rfl, sq_tup hpt2, atI_nat (j := 0) rfl, rfl, _, rfl, iteF' (by decide +kernel) ?_⟩
      have lv2 := lv.tk (TK.of s02)
      refine ⟨_, rfl, pt, _, 1, _, rfl, rfl, sq_tup hpt2, atI_nat (j := 1) rfl, _, rfl, _, rfl, _, rfl, _, rfl, ?_⟩
      refine ⟨lf, vws, k, ws, y.size, false, L, rfl, kb, lw2, wb, lv2, lo_, (fun h => by rw [rm] at h; cases h), fun H3 s3 => ⟨_, rfl, iteF' (by decide) ?_⟩⟩
      have s03 := s02.trans s3
      refine ⟨_, rfl, Nat.zero_le _, fun e0 ne0 => ?_⟩
      have k4 := same_upd (o := .tup []) ne0
      have s04 := s03.trans k4
      refine ⟨_, rfl, _, rfl, pt, _, 1, _, rfl, rfl, sq_tup (s04 _ _ hpl), atI_nat (j := 1) rfl, ?_⟩
      refine ⟨.ref x, .ref e0, bv, lf, k, n, y, bx, L, rfl, tw.ext (ext_of s04), bo, lv.tk (TK.of s04), by rw [hW]; exact lo_, rm, fun H5 s5 => ⟨_, _, rfl, rfl, ?_⟩⟩
      exact q _ (s04.trans s5)
    · cases ev
      rw [hW] at nl il ig dv
      have hpt2 := s02 _ _ hpl
      refine ⟨_, rfl, iteF' (by rw [nl]; decide) ?_⟩
      refine ⟨Nat.zero_le _, fun d0 nd0 => ?_⟩
      have k3 := same_upd (o := .lst []) nd0
      have hd3 : upd H2 d0 (.lst []) d0 = some (.lst []) := upd_same
      generalize hH3 : upd H2 d0 (.lst []) = H3 at *
      refine ⟨fun σ H' => ∃ y9 y10 y11 y12 y13 ys, σ = [some (.ref x), some (.int (k : Nat)), some bv, some (.bl false), some (.ref pt), some vw, some vws, some (.int y.size), some (.ref d0), y9, y10, y11, y12, y13, none, none, none, none, none, none] ∧ Same H2 H' ∧ H' d0 = some (.lst ys) ∧ All2 (DuV H') ys (dueG y.jobs ws (startG ws y.size fs) (startG (bw ws) y.size gs) ws.length), ?_, fun σ H4 hM => ?_⟩
      · obtain ⟨pl2, us2, rfl, hp2, wl2⟩ := lw2
        have lus := wl2.len
        refine ⟨_, rfl, pl2, us2, rfl, .inl (sq_lst (k3 _ _ hp2)), us2.length, rfl, by omega, by omega, ?_⟩
        refine for_range (lo := 0) (n := ((us2.length : Nat) : Int).toNat) (fun i σ H' => ∃ y9 y10 y11 y12 y13 ys, σ = [some (.ref x), some (.int (k : Nat)), some bv, some (.bl false), some (.ref pt), some vw, some (.ref pl2), some (.int y.size), some (.ref d0), y9, y10, y11, y12, y13, none, none, none, none, none, none] ∧ Same H2 H' ∧ H' d0 = some (.lst ys) ∧ All2 (DuV H') ys (dueG y.jobs ws (startG ws y.size fs) (startG (bw ws) y.size gs) i)) ⟨none, none, none, none, none, [], rfl, k3, hd3, .nil⟩ (fun i σ H4 hi_ hI => ?_) (fun σ H4 hI => by rw [Int.toNat_natCast, lus] at hI; exact hI)
        rw [Int.toNat_natCast] at hi_
        obtain ⟨y9, y10, y11, y12, y13, ys, rfl, s4, hd4, duv⟩ := hI
        rw [show ((0 : Int) + (i : Nat)) = (i : Int) by omega]
        have hj : i < ws.length := by omega
        obtain ⟨bd1, bd2⟩ : -1000000 ≤ lo ws i ∧ hi ws i ≤ 1000000 := by
          have hjj : i < y.jobs.length := by omega
          have pl := wj.ok.pl _ (jA_mem hjj)
          have := bb _ (bx_mem (b := bx) (p := (jA y.jobs i).1) (by omega))
          rw [← hW]
          unfold lo hi
          rw [ws_at hjj]
          show -1000000 ≤ (bxAt bx (jA y.jobs i).1).1 ∧ (bxAt bx (jA y.jobs i).1).2 ≤ 1000000
          omega
        refine ⟨_, rfl, _, rfl, _, rfl, _, rfl, .ref pl2, ws, y.size, i, false, rfl, ⟨pl2, us2, rfl, s4 _ _ hp2, wdTk (TK.of s4) wl2⟩, wb, hj, nl, bd1, bd2, fun pf H5 s5 hpf => ?_⟩
        refine ⟨pf, _, rfl, sq_tup hpf, rfl, _, _, rfl, _, _, rfl, rfl, ?_⟩
        obtain ⟨pk, uk, hpk⟩ := wd_at (wdTk (TK.of (s4.trans s5)) wl2) hj
        have hp5 := s5 _ _ (s4 _ _ hp2)
        refine ⟨_, rfl, _, rfl, pl2, us2, (i : Int), _, rfl, rfl, sq_lst hp5, atI_nat uk, pk, _, 0, _, rfl, rfl, sq_tup hpk, atI_nat (j := 0) rfl, _, rfl, _, rfl, pl2, us2, (i : Int), _, rfl, rfl, sq_lst hp5, atI_nat uk, pk, _, 1, _, rfl, rfl, sq_tup hpk, atI_nat (j := 1) rfl, _, _, rfl, ?_⟩
        have s25 := s4.trans s5
        have hd5 := s5 _ _ hd4
        have duv5 := duTk (TK.of s5) duv
        obtain ⟨pW, xW, pJ, uJ, rfl, hpW, hx1, hpJ, luJ, atJ⟩ := wvk.jobs hJ
        obtain ⟨qj, rj, hqj, hq⟩ := atJ i (by omega)
        have lys : ys.length ≤ 2 * i := by rw [duv.len]; exact dueG_len ..
        generalize hN : (hi ws i - lo ws i).toNat = N at *
        generalize hE : dueG y.jobs ws (startG ws y.size fs) (startG (bw ws) y.size gs) i = E0 at *
        have s05 := s02.trans s25
        refine ⟨fun σ H' => ∃ ys', σ = [some (.ref x), some (.int (k : Nat)), some bv, some (.bl false), some (.ref pt), some (.ref pW), some (.ref pl2), some (.int y.size), some (.ref d0), some (.int (i : Nat)), some (opI (upI ws y.size false i N)), some (opI (dnI ws y.size false i N)), some (.int (lo ws i)), some (.int (hi ws i)), none, none, none, none, none, none] ∧ Same H2 H' ∧ H' d0 = some (.lst ys') ∧ All2 (DuV H') ys' (E0 ++ du0 (jA y.jobs i).1 i (gW ws i) (startG ws y.size fs i)), ?_, fun σ H6 hM => ?_⟩
        · rcases up_cases wb.ok (by omega) nl il hj (jA y.jobs i).1 with ⟨s, L, e1, e2, g1, g2⟩ | ⟨e1, e2⟩
          · rw [hN] at e1
            refine ⟨_, rfl, rfl, _, rfl, iteT' (by rw [e1]; rfl) ?_⟩
            rw [e2, e1]
            refine ⟨_, rfl, .inl ⟨rfl, _, sq_lst hd5⟩, _, rfl, pW, xW, 1, _, rfl, rfl, sq_tup (s05 _ _ hpW), atI_nat (j := 1) hx1, _, rfl, pJ, uJ, (i : Int), _, rfl, rfl, sq_tup (s05 _ _ hpJ), atI_nat hqj, qj, _, 0, _, rfl, rfl, sq_tup (s05 _ _ hq), atI_nat (j := 0) rfl, _, rfl, _, rfl, _, rfl, _, rfl, _, _, rfl, rfl, len2, fun pp npp => ?_⟩
            refine ⟨len5, fun po npo => ?_⟩
            obtain ⟨ko, hd6, fin⟩ := due_put (e := (((((jA y.jobs i).1, 0, s) : Dr), L), (i, (lo ws i, s - 1)))) duv5 hd5 npp npo
            exact ⟨d0, ys, .ref po, rfl, rfl, hd6, small1000 (by omega), ys ++ [V.ref po], rfl, same_at (s25.trans ko) nd0, upd_same, fin⟩
          · rw [hN] at e1
            refine ⟨_, rfl, rfl, _, rfl, iteF' (by rw [e1]; decide) ?_⟩
            exact ⟨ys, rfl, s25, hd5, by rw [e2, List.append_nil]; exact duv5⟩
        obtain ⟨ys', rfl, s26, hd6, duv6⟩ := hM
        have eS := dueG_succ y.jobs ws (startG ws y.size fs) (startG (bw ws) y.size gs) i
        rw [hE] at eS
        have lys' : ys'.length ≤ 2 * i + 1 := by
          have l1 := duv6.len
          have l2 := congrArg List.length (du0_fst (jA y.jobs i).1 i (gW ws i) (startG ws y.size fs i))
          rw [List.length_map] at l2
          have l3 := dr0_len (jA y.jobs i).1 (gW ws i) (startG ws y.size fs i)
          have l4 := duv.len
          rw [List.length_append] at l1
          omega
        have s06 := s02.trans s26
        have no : du1 (jA y.jobs i).1 i (gW ws i) (startG ws y.size fs i) (startG (bw ws) y.size gs i) = [] → All2 (DuV H6) ys' (dueG y.jobs ws (startG ws y.size fs) (startG (bw ws) y.size gs) (i + 1)) := fun e2 => by
          rw [eS, e2, List.append_nil]; exact duv6
        have yes : ∀ d L, du1 (jA y.jobs i).1 i (gW ws i) (startG ws y.size fs i) (startG (bw ws) y.size gs i) = [(((((jA y.jobs i).1, 1, d) : Dr), L), (i, (d + 1, hi ws i)))] → dueG y.jobs ws (startG ws y.size fs) (startG (bw ws) y.size gs) (i + 1) = (E0 ++ du0 (jA y.jobs i).1 i (gW ws i) (startG ws y.size fs i)) ++ [(((((jA y.jobs i).1, 1, d) : Dr), L), (i, (d + 1, hi ws i)))] := fun d L e2 => by
          rw [eS, e2, List.append_assoc]
        rcases dn_cases wb.ok (by omega) nl il ig hj (jA y.jobs i).1 with ⟨d, e1, g1, g2, h⟩ | ⟨e1, e2⟩
        · rw [hN] at e1 h
          refine ⟨_, rfl, rfl, _, rfl, iteT' (by rw [e1]; rfl) ?_⟩
          rw [e1]
          have app : ∀ (L : Lf) (hL : du1 (jA y.jobs i).1 i (gW ws i) (startG ws y.size fs i) (startG (bw ws) y.size gs i) = [(((((jA y.jobs i).1, 1, d) : Dr), L), (i, (d + 1, hi ws i)))]) (pp po : Addr) (npp : H6 pp = none) (npo : upd H6 pp (.tup [.int (d + 1), .int (hi ws i)]) po = none), _ := fun L hL pp po npp npo => due_put (e := (((((jA y.jobs i).1, 1, d) : Dr), L), (i, (d + 1, hi ws i)))) duv6 hd6 npp npo
          cases eu : upI ws y.size false i N with
          | none =>
            refine ⟨_, rfl, rfl, _, rfl, iteT' (by simp [opI]) ?_⟩
            refine iteT' rfl ?_
            rcases h with ⟨L, hL, _⟩ | ⟨_, s, hs, _⟩
            · refine ⟨_, rfl, .inl ⟨rfl, _, sq_lst hd6⟩, _, rfl, pW, xW, 1, _, rfl, rfl, sq_tup (s06 _ _ hpW), atI_nat (j := 1) hx1, _, rfl, pJ, uJ, (i : Int), _, rfl, rfl, sq_tup (s06 _ _ hpJ), atI_nat hqj, qj, _, 0, _, rfl, rfl, sq_tup (s06 _ _ hq), atI_nat (j := 0) rfl, _, rfl, _, rfl, _, rfl, _, _, rfl, rfl, _, rfl, len2, fun pp npp => ?_⟩
              refine ⟨len5, fun po npo => ?_⟩
              obtain ⟨ko, hd7, fin⟩ := app L hL pp po npp npo
              exact ⟨d0, ys', .ref po, rfl, rfl, hd7, small1000 (by omega), _, _, _, _, _, ys' ++ [.ref po], rfl, same_at (s26.trans ko) nd0, upd_same, by rw [yes d L hL]; exact fin⟩
            · rw [eu] at hs; cases hs
          | some s =>
            refine ⟨_, rfl, rfl, _, rfl, iteF' (by simp [opI]) ?_⟩
            rcases h with ⟨L, hL, hs⟩ | ⟨e2, s', hs', lt⟩
            · have := hs s eu
              refine ⟨_, rfl, _, rfl, _, _, rfl, rfl, _, rfl, iteT' (decide_eq_true this) ?_⟩
              refine ⟨_, rfl, .inl ⟨rfl, _, sq_lst hd6⟩, _, rfl, pW, xW, 1, _, rfl, rfl, sq_tup (s06 _ _ hpW), atI_nat (j := 1) hx1, _, rfl, pJ, uJ, (i : Int), _, rfl, rfl, sq_tup (s06 _ _ hpJ), atI_nat hqj, qj, _, 0, _, rfl, rfl, sq_tup (s06 _ _ hq), atI_nat (j := 0) rfl, _, rfl, _, rfl, _, rfl, _, _, rfl, rfl, _, rfl, len2, fun pp npp => ?_⟩
              refine ⟨len5, fun po npo => ?_⟩
              obtain ⟨ko, hd7, fin⟩ := app L hL pp po npp npo
              exact ⟨d0, ys', .ref po, rfl, rfl, hd7, small1000 (by omega), _, _, _, _, _, ys' ++ [V.ref po], rfl, same_at (s26.trans ko) nd0, upd_same, by rw [yes d L hL]; exact fin⟩
            · rw [eu] at hs'
              cases hs'
              refine ⟨_, rfl, _, rfl, _, _, rfl, rfl, _, rfl, iteF' (fun z => by have := of_decide_eq_true z; omega) ?_⟩
              exact ⟨_, _, _, _, _, ys', rfl, s26, hd6, no e2⟩
        · rw [hN] at e1
          refine ⟨_, rfl, rfl, _, rfl, iteF' (by rw [e1]; decide) ?_⟩
          refine iteF' (by decide) ?_
          exact ⟨_, _, _, _, _, ys', rfl, s26, hd6, no e2⟩
      obtain ⟨y9, y10, y11, y12, y13, ys, rfl, s24, hd4, duv⟩ := hM
      have hpl2 : ∃ pl2, vws = .ref pl2 := by obtain ⟨pl2, us2, e, _⟩ := lw2; exact ⟨pl2, e⟩
      have s04 := s02.trans s24
      have dv4 := drTk (TK.of s04) dv
      have hpt4 := s04 _ _ hpl
      have fE := dueG_fst y.jobs ws (startG ws y.size fs) (startG (bw ws) y.size gs) ws.length
      have okE := dueG_ok wb.ok (by omega) nl il ig (js := y.jobs) ws.length (Nat.le_refl _)
      have lE := dueG_len y.jobs ws (startG ws y.size fs) (startG (bw ws) y.size gs) ws.length
      rw [← lws, ← fE] at dv4
      generalize hEE : dueG y.jobs ws (startG ws y.size fs) (startG (bw ws) y.size gs) ws.length = EE at *
      have lds : ds.length = EE.length := by rw [dv4.len, List.length_map]
      have lys := duv.len
      have bdE : ∀ d ∈ (EE.map Prod.fst).map Prod.fst, d.1 ≤ 1000 ∧ -1000 ≤ d.2.1 ∧ d.2.1 ≤ 1000 ∧ -1000 ≤ d.2.2 ∧ d.2.2 ≤ 1000 := by
        intro d hd
        rw [List.map_map] at hd
        obtain ⟨e, he, rfl⟩ := List.mem_map.mp hd
        have o := okE e he
        have hjj : e.2.1 < y.jobs.length := by have := o.j; omega
        have pl := wj.ok.pl _ (jA_mem hjj)
        have b2 := bb _ (bx_mem (b := bx) (p := (jA y.jobs e.2.1).1) (by omega))
        have ep := o.p
        have v1 := o.v1
        rw [← hW] at v1
        unfold lo hi at v1
        rw [ws_at hjj] at v1
        have v1 : (bxAt bx (jA y.jobs e.2.1).1).1 ≤ e.1.1.2.2 ∧ e.1.1.2.2 ≤ (bxAt bx (jA y.jobs e.2.1).1).2 := v1
        have s1' := o.s1
        show e.1.1.1 ≤ 1000 ∧ -1000 ≤ e.1.1.2.1 ∧ e.1.1.2.1 ≤ 1000 ∧ -1000 ≤ e.1.1.2.2 ∧ e.1.1.2.2 ≤ 1000
        omega
      have shE := d3_shw bdE (by rw [List.length_map, List.length_map]; omega)
      obtain ⟨pl2, rfl⟩ := hpl2
      refine ⟨fun σ H' => σ = [some (.ref x), some (.int (k : Nat)), some bv, some (.bl false), some (.ref pt), some vw, some (.ref pl2), some (.int y.size), some (.ref d0), y9, y10, y11, y12, y13, none, none, none, none, none, none] ∧ Same H4 H', ?_, fun σ H5 hM => ?_⟩
      · refine ⟨_, rfl, pt, rfl, ⟨_, sq_tup hpt4⟩, fun D nD => ?_⟩
        refine lc_tup (K := K) (a := pt) (xs := ds) (fun m H' => ∃ zs, H' D = some (.lst zs) ∧ All2 (D3V H') zs (((EE.map Prod.fst).take m).map Prod.fst) ∧ Same H4 H') ⟨[], upd_same, .nil, same_upd nD⟩ (fun m H' _ h => by obtain ⟨_, _, _, sm⟩ := h; exact sq_tup (sm _ _ hpt4)) ?_ ?_
        · rintro m xv H5 hx ⟨zs, hD, zv, sm⟩
          obtain ⟨d, hd, pd, lf, rfl, hpd, lvd⟩ := dv4.at_ hx
          have lm := (List.getElem?_eq_some_iff.mp hd).1
          rw [List.length_map] at lm
          have lzs : zs.length = m := by rw [zv.len, List.length_map, List.length_take, List.length_map]; omega
          refine ⟨rfl, _, rfl, ?_⟩
          unfold tNoPart
          refine ⟨_, rfl, ?_⟩
          refine slTo (a := 3) (sm _ _ hpd) (by show 3 < 4; decide) fun pq H6 s6 hpq => ?_
          have hD6 := s6 _ _ hD
          refine ⟨_, hD6, small1000 (by omega), zs ++ [.ref pq], upd_same, ?_, same_at (sm.trans s6) nD⟩
          rw [take_one hd, List.map_append]
          exact d3Tk (TK.put hD6) ((d3Tk (TK.of s6) zv).app ⟨pq, rfl, hpq⟩)
        · rintro H5 ⟨zs, hD, zv, sm⟩
          rw [lds, ← List.length_map (f := Prod.fst), List.take_length] at zv
          refine ⟨.ref D, _, rfl, .lst (sq_lst hD) (d3_dp zv), shE, .inl ⟨D, rfl⟩, ?_⟩
          have hd5 := sm _ _ hd4
          have duv5 := duTk (TK.of sm) duv
          refine ⟨_, rfl, d0, rfl, ⟨_, sq_lst hd5⟩, fun D2 nD2 => ?_⟩
          refine lc_list (K := K) (a := d0) (xs := ys) (fun m H' => ∃ zs, H' D2 = some (.lst zs) ∧ All2 (D3V H') zs (((EE.take m).map Prod.fst).map Prod.fst) ∧ Same H5 H') ⟨[], upd_same, .nil, same_upd nD2⟩ (fun m H' _ h => by obtain ⟨_, _, _, sm⟩ := h; exact sq_lst (sm _ _ hd5)) ?_ ?_
          · rintro m xv H6 hx ⟨zs2, hD2, zv2, sm2⟩
            obtain ⟨e, he, pd, pp, rfl, hpd, hpp⟩ := duv5.at_ hx
            have lm := (List.getElem?_eq_some_iff.mp he).1
            have lzs : zs2.length = m := by rw [zv2.len, List.length_map, List.length_map, List.length_take]; omega
            refine ⟨rfl, _, rfl, ?_⟩
            unfold tNoPart
            refine ⟨_, rfl, ?_⟩
            refine slTo (a := 3) (sm2 _ _ hpd) (by show 3 < 5; decide) fun pq H7 s7 hpq => ?_
            have hD7 := s7 _ _ hD2
            refine ⟨_, hD7, small1000 (by omega), zs2 ++ [.ref pq], upd_same, ?_, same_at (sm2.trans s7) nD2⟩
            rw [take_one he, List.map_append, List.map_append]
            exact d3Tk (TK.put hD7) ((d3Tk (TK.of s7) zv2).app ⟨pq, rfl, hpq⟩)
          · rintro H6 ⟨zs2, hD2, zv2, sm2⟩
            rw [lys, List.take_length] at zv2
            refine ⟨.ref D2, _, rfl, .lst (sq_lst hD2) (d3_dp zv2), shE, .inl ⟨D2, rfl⟩, ?_⟩
            refine ⟨rfl, _, rfl, iteF' (by simp) ?_⟩
            have s46 := sm.trans sm2
            refine ⟨_, rfl, pt, rfl, ⟨_, sq_tup (s46 _ _ hpt4)⟩, fun D3 nD3 => ?_⟩
            refine lc_tup (K := K) (a := pt) (xs := ds) (fun m H' => H' D3 = some (.lst ((List.replicate m true).map V.bl)) ∧ Same H6 H') ⟨upd_same, same_upd nD3⟩ (fun m H' _ h => sq_tup ((s46.trans h.2) _ _ hpt4)) ?_ ?_
            · rintro m xv H7 hx ⟨hD3, sm3⟩
              obtain ⟨d, hd, pd, lf, rfl, hpd, lvd⟩ := dv4.at_ hx
              have lm := (List.getElem?_eq_some_iff.mp hd).1
              rw [List.length_map] at lm
              refine ⟨rfl, _, rfl, pd, _, rfl, .inr (sq_tup ((s46.trans sm3) _ _ hpd)), rfl, _, hD3, by rw [List.length_map, List.length_replicate]; exact small1000 (by omega), ?_, same_at sm3 nD3⟩
              rw [upd_same, List.replicate_succ', List.map_append]; rfl
            · rintro H7 ⟨hD3, sm3⟩
              refine ⟨D3, _, rfl, sq_lst hD3, ?_⟩
              refine ⟨_, rfl, iteF' (by rw [show (List.replicate ds.length true).all id = true from by rw [List.all_eq_true]; intro b hb; rw [List.eq_of_mem_replicate hb]; rfl]; decide) ⟨rfl, s46.trans sm3⟩⟩
      obtain ⟨rfl, s45⟩ := hM
      have hd5 := s45 _ _ hd4
      have duv5 := duTk (TK.of s45) duv
      have dv5 := drTk (TK.of s45) dv4
      have s05 := s04.trans s45
      have hpt5 := s05 _ _ hpl
      refine ⟨fun σ H' => (∃ y9 y14 y15 y16 y17 y18 y19, σ = [some (.ref x), some (.int (k : Nat)), some bv, some (.bl false), some (.ref pt), some vw, some (.ref pl2), some (.int y.size), some (.ref d0), y9, y10, y11, y12, y13, y14, y15, y16, y17, y18, y19]) ∧ Same H5 H', ?_, fun σ H6 hM => ?_⟩
      · refine ⟨_, rfl, _, rfl, pt, d0, ds, ys, rfl, sq_tup hpt5, sq_lst hd5, ?_⟩
        refine ZM.for_zipM (xs := ds) (ys := ys) (by omega) (fun i σ H' => (∃ y9 y14 y15 y16 y17 y18 y19, σ = [some (.ref x), some (.int (k : Nat)), some bv, some (.bl false), some (.ref pt), some vw, some (.ref pl2), some (.int y.size), some (.ref d0), y9, y10, y11, y12, y13, y14, y15, y16, y17, y18, y19]) ∧ Same H5 H') ⟨⟨_, _, _, _, _, _, _, rfl⟩, Same.refl _⟩ (fun i σ H' h => ⟨sq_tup (h.2 _ _ hpt5), sq_lst (h.2 _ _ hd5)⟩) (fun i v1 v2 T0 σ H6 h1 h2 hI nT => ?_) (fun σ H' h => h)
        obtain ⟨⟨y9', y14, y15, y16, y17, y18, y19, rfl⟩, s6⟩ := hI
        obtain ⟨d, hd, pd, lf, rfl, hpd, lvd⟩ := dv5.at_ h1
        obtain ⟨e, he, pi, pp, rfl, hpi, hpp⟩ := duv5.at_ h2
        have ed : d = e.1 := by
          rw [List.getElem?_map, he] at hd
          exact (Option.some.inj hd).symm
        subst ed
        have o := okE e (List.mem_of_getElem? he)
        have kT := same_upd (o := .tup [.ref pd, .ref pi]) nT
        have s7 := s6.trans kT
        have hT : upd H6 T0 (.tup [.ref pd, .ref pi]) T0 = some (.tup [.ref pd, .ref pi]) := upd_same
        generalize upd H6 T0 (.tup [.ref pd, .ref pi]) = H7 at *
        refine ⟨T0, _, rfl, sq_tup hT, rfl, _, _, rfl, _, _, rfl, rfl, ?_⟩
        refine ⟨_, rfl, pi, _, rfl, sq_tup (s7 _ _ hpi), rfl, _, _, rfl, _, _, rfl, _, _, rfl, _, _, rfl, _, _, rfl, rfl, ?_⟩
        have lw7 := (lw2.tk (s24.trans s45)).tk s7
        have hpp7 := s7 _ _ hpp
        refine ⟨_, rfl, pd, _, 3, _, rfl, rfl, sq_tup (s7 _ _ hpd), atI_nat (j := 3) rfl, _, rfl, _, rfl, _, rfl, _, rfl, pp, _, 0, _, rfl, rfl, sq_tup hpp7, atI_nat (j := 0) rfl, _, rfl, pp, _, 1, _, rfl, rfl, sq_tup hpp7, atI_nat (j := 1) rfl, ?_⟩
        refine ⟨.ref pl2, ws, e.2.1, e.2.2.1, e.2.2.2, rfl, lw7, few, o.j, fun v' H8 s8 lw8 => ?_⟩
        have s78 := s7.trans s8
        refine ⟨_, rfl, _, rfl, ?_⟩
        refine ⟨lf, v', k, cg ws e.2.1 e.2.2.1 e.2.2.2, y.size, false, e.1.2, rfl, kb, lw8, wb.cg o.j o.ab, lvd.tk (TK.of s78), o.lf, (fun h => by rw [o.rm] at h; cases h), fun H9 s9 => ⟨_, rfl, iteF' (by decide) ?_⟩⟩
        have s79 := s78.trans s9
        have hjj : e.2.1 < y.jobs.length := by have := o.j; omega
        have pl := wj.ok.pl _ (jA_mem hjj)
        have ep := o.p
        obtain ⟨pb, bs, rfl, hpb, bvv⟩ := bv_
        have lbs : bs.length = n := by rw [bvv.len]; exact bl
        have hpl_ : e.1.1.1 < bs.length := by omega
        have s09 := s05.trans s79
        refine ⟨_, rfl, Nat.zero_le _, fun e0 ne0 => ?_⟩
        have k10 := same_upd (o := .tup []) ne0
        generalize upd H9 e0 (.tup []) = H10 at *
        have s0a := s09.trans k10
        refine ⟨_, rfl, ?_⟩
        unfold tNoPart
        refine ⟨_, rfl, _, rfl, ?_⟩
        refine slTo (a := e.1.1.1) (s0a _ _ hpb) hpl_ fun q1 H11 s11 hq1 => ?_
        refine ⟨_, rfl, len1, fun t1 nt1 => ?_⟩
        have k12 := same_upd (o := .tup [.ref pp]) nt1
        have ht1 : upd H11 t1 (.tup [.ref pp]) t1 = some (.tup [.ref pp]) := upd_same
        generalize upd H11 t1 (.tup [.ref pp]) = H12 at *
        refine catA (k12 _ _ hq1) ht1 (by rw [List.length_take]; show _ + 1 ≤ 1000; omega) fun q2 H13 s13 hq2 => ?_
        have s0d := ((s0a.trans s11).trans k12).trans s13
        refine ⟨_, rfl, _, rfl, _, _, rfl, rfl, _, rfl, ?_⟩
        refine slFrom (a := e.1.1.1) (s0d _ _ hpb) hpl_ fun q3 H14 s14 hq3 => ?_
        refine catA (s14 _ _ hq2) hq3 (by rw [List.length_append, List.length_take, List.length_drop]; show _ + 1 + _ ≤ 1000; omega) fun q4 H15 s15 hq4 => ?_
        have s0f := (s0d.trans s14).trans s15
        have s7f : Same H7 H15 := (((((((s8.trans s9).trans k10).trans s11).trans k12).trans s13).trans s14).trans s15)
        rw [← set_cut hpl_] at hq4
        refine ⟨_, rfl, pd, _, 3, _, rfl, rfl, sq_tup (s7f _ _ (s7 _ _ hpd)), atI_nat (j := 3) rfl, ?_⟩
        have twf := tw.ext (ext_of s0f)
        have b4 : BxV H15 (.ref q4) (bx.set e.1.1.1 e.2.2) := ⟨q4, _, rfl, hq4, All2.set ⟨pp, rfl, s7f _ _ hpp7⟩ e.1.1.1 (p2Tk (TK.of s0f) bvv)⟩
        refine ⟨.ref x, .ref e0, .ref q4, lf, k, n, y, bx.set e.1.1.1 e.2.2, e.1.2, rfl, ⟨twf.tv, twf.ok, twf.j, b4, by rw [List.length_set]; exact bl⟩, bo_set bo o.ab, lvd.tk (TK.of (s7.trans s7f)), ?_, o.rm, fun H16 s16 => ?_⟩
        · rw [ep, ws_set wj.ok bl hjj, hW]; exact o.lf
        · refine ⟨_, _, rfl, rfl, _, rfl, iteF' (by decide) ⟨⟨_, _, _, _, _, _, _, rfl⟩, (s7.trans s7f).trans s16⟩⟩
      obtain ⟨⟨y9', y14, y15, y16, y17, y18, y19, rfl⟩, s56⟩ := hM
      exact q _ (s05.trans s56)
end
end M60

namespace M60
open PySem PySem.Spec PyProof.Rows L2 SX Own Gd
open C8 (Cal pe_c pe_gc pe_mk Mak pss_cut)
open M12 (Sn ld net Pos ld_nn cov lb lb_le lb_step lb_nil)
open M12 (ups)
def sF (S : List Int) (j : Nat) : Int := S.getD j 0
theorem sF_at {S : List Int} {j : Nat} (h : j < S.length) : (S.map V.int)[j]? = some (.int (sF S j)) := by
  unfold sF
  rw [List.getElem?_map, List.getElem?_eq_getElem h, List.getD_eq_getElem?_getD, List.getElem?_eq_getElem h]; rfl
def runP (ws : List Wd) (S : List Int) (m : Int) (k : Nat) : Bool := decide (sF S k ≤ m ∧ m < sF S k + ln ws k)
theorem ls_filt (f : Nat → Int) (p : Nat → Bool) : ∀ n, ls f ((List.range n).filter p) = sg (fun k => if p k = true then f k else 0) n
  | 0 => rfl
  | n + 1 => by
    rw [filter_range_succ, ls_app, ls_filt f p n]
    simp only [sg]
    by_cases e : p n = true
    · rw [if_pos e, if_pos e]; simp [ls]
    · rw [if_neg e, if_neg e]; simp [ls]
theorem ld_run (ws : List Wd) (S : List Int) (m : Int) (n : Nat) : ld (spW ws (sF S) n) m = ls (nd ws) ((List.range n).filter (runP ws S m)) := by
  rw [ld_sg, ls_filt]
  refine sg_cong fun k _ => ?_
  unfold runP
  simp only [decide_eq_true_eq]
theorem ups_len (s : Int) : ∀ n, (ups s n).length = n
  | 0 => rfl
  | n + 1 => by simp [ups, ups_len s n]
theorem ups_mem (s : Int) : ∀ (n : Nat) (c : Int), c ∈ ups s n ↔ s ≤ c ∧ c < s + n
  | 0, c => by simp [ups]
  | n + 1, c => by
    simp only [ups, List.mem_append, ups_mem s n c, List.mem_singleton]; omega
def manyW (w : Wd) : Nat := (w.2.1 + 1 - w.1).toNat
def vals (w : Wd) : List Int := ups w.1 (manyW w)
def extS (w : Wd) (s : List Int) : List (List Int) := (vals w).map fun v => s ++ [v]
def allF (ws : List Wd) : List (List Int) := ws.foldl (fun fs w => fs.flatMap (extS w)) [[]]
def prodW (ws : List Wd) : Nat := ws.foldl (fun n w => n * manyW w) 1
theorem allF_snoc (ws : List Wd) (w : Wd) : allF (ws ++ [w]) = (allF ws).flatMap (extS w) := by unfold allF; rw [List.foldl_append]; rfl
theorem prodW_snoc (ws : List Wd) (w : Wd) : prodW (ws ++ [w]) = prodW ws * manyW w := by unfold prodW; rw [List.foldl_append]; rfl
theorem ext_len (w : Wd) (s : List Int) : (extS w s).length = manyW w := by unfold extS vals; rw [List.length_map, ups_len]
theorem fm_len (w : Wd) : ∀ fs : List (List Int), (fs.flatMap (extS w)).length = fs.length * manyW w
  | [] => by simp
  | s :: r => by
    rw [List.flatMap_cons, List.length_append, ext_len, fm_len w r, List.length_cons, Nat.succ_mul]; omega
theorem allF_len {ws : List Wd} : ∀ i, i ≤ ws.length → (allF (ws.take i)).length = prodW (ws.take i)
  | 0, _ => rfl
  | i + 1, h => by
    rw [take_one (List.getElem?_eq_getElem h), allF_snoc, prodW_snoc, fm_len, allF_len i (by omega)]
theorem allF_mem {ws : List Wd} : ∀ i, i ≤ ws.length → ∀ s ∈ allF (ws.take i), s.length = i ∧ ∀ k, k < i → lo ws k ≤ sF s k ∧ sF s k ≤ hi ws k
  | 0, _, s, h => by
    have h : s ∈ ([[]] : List (List Int)) := h
    rw [List.mem_singleton.mp h]
    exact ⟨rfl, fun k hk => absurd hk (Nat.not_lt_zero _)⟩
  | i + 1, hi_, s, h => by
    rw [take_one (List.getElem?_eq_getElem hi_), allF_snoc] at h
    obtain ⟨t, ht, hs⟩ := List.mem_flatMap.mp h
    obtain ⟨v, hv, rfl⟩ := List.mem_map.mp hs
    obtain ⟨l1, l2⟩ := allF_mem i (by omega) t ht
    refine ⟨by rw [List.length_append, l1]; rfl, fun k hk => ?_⟩
    rcases Nat.lt_or_eq_of_le (Nat.le_of_lt_succ hk) with g | g
    · have e : sF (t ++ [v]) k = sF t k := by
        unfold sF
        rw [List.getD_eq_getElem?_getD, List.getD_eq_getElem?_getD, List.getElem?_append_left (by omega)]
      rw [e]; exact l2 k g
    · subst g
      have e : sF (t ++ [v]) k = v := by
        unfold sF
        rw [List.getD_eq_getElem?_getD, List.getElem?_append_right (by omega), l1, Nat.sub_self]; rfl
      rw [e]
      unfold vals manyW at hv
      have := (ups_mem _ _ _).mp hv
      unfold lo hi
      rw [gW_at hi_]
      omega
theorem lvTk {H H' : Hp} (s : TK H H') {us : List V} {ss : List (List Int)} (h : All2 (LV H) us ss) : All2 (LV H') us ss := h.mono fun _ _ g => g.tk s
section
variable {P : Program} {w : World} {K : PySem.W.Frag} {mg : Str → Option Value} {base : Heap} {aW aT : Addr} {es : Array DictEntry} {nn : Nat}
abbrev s_Lkeeps : Stmt := topS 114
abbrev n_Lkeeps : List Str := ["windows", "size", "starts", "now", "needs", "job"]
theorem sc_Lkeeps : FnScope n_Lkeeps ["windows", "size", "starts"] (defScope s_Lkeeps) := ⟨rfl, rfl, rfl, by decide +kernel, rfl, by decide +kernel, by decide +kernel⟩
def spKeepsT : Sp := fun vs H Q _ => ∃ (pl pst : Addr) (us : List V) (ws : List Wd) (z : Int) (S : List Int), vs = [.ref pl, .int z, .ref pst] ∧ H pl = some (.lst us) ∧ All2 (WdV H) us ws ∧ ws.length ≤ 20 ∧ H pst = some (tI S) ∧ S.length = ws.length ∧ ∀ b H', (b = true ↔ ∀ j, j < ws.length → ld (spW ws (sF S) ws.length) (sF S j) ≤ z) → Same H H' → Q (.bl b) H'
theorem ok_Lkeeps {f : Addr} {fd : FuncData} (F : Fun K "_law_keeps" "_law_keeps" s_Lkeeps f fd) (T : Txt K mg w aW aT es nn) : FnOk P w K mg base CX0 1 f fd ["windows", "size", "starts"] spKeepsT := by
  refine F.ok sc_Lkeeps (fun vs H Q E h => ?_) (fun cdv A outer s0 H vs Q E hr h => ?_)
  · obtain ⟨pl, pst, us, ws, z, S, rfl, _⟩ := h
    rfl
  · obtain ⟨pl, pst, us, ws, z, S, rfl, hl, lv, few, hs, lS, q⟩ := h
    have lus := lv.len
    refine ⟨_, (pss_cons (ps_for PassesOwn.never rfl (pi_tup (pv 2)) (pg_name (i := 3) sc_Lkeeps.nd rfl (.inr rfl)) (pss_cons (ps_setLc (i := 4) (own := [("job", 5)]) rfl sc_Lkeeps.nd rfl rfl (sw_true rfl rfl rfl (by decide +kernel)) (pi_range1 (by rfl) T.b_range (pa_cons (pe_callB call_len_seq (by rfl) T.b_len (by decide +kernel) (pa_cons (pv 2) pa_nil)) pa_nil)) (blkOk_by (N := n_Lkeeps) (sc := defScope s_Lkeeps) (by decide +kernel)) (fun _ _ _ _ _ => (pg_name (i := 5) sc_Lkeeps.nd rfl (.inl rfl))) (fun _ _ _ _ _ => (pts_one (PW.pt (pw_and (pt_cmpR op_le (pe_ix (r := rIxT K) ix_tup (pv 2) (pv 5) (fun _ _ => rfl)) (pv 3) (nomark _)) (pw_and1 (pt_cmpR op_lt (pv 3) (pe_op op_add (pe_ix (r := rIxT K) ix_tup (pv 2) (pv 5) (fun _ _ => rfl)) (pe_ix (r := rIxT K) ix_tup (pe_ix (r := rIxL K) ix_list (pv 0) (pv 5) (fun _ _ => rfl)) pe_int (fun _ _ => rfl))) (nomark _))))))) (fun _ _ _ _ _ => (pe_ix (r := rIxT K) ix_tup (pe_ix (r := rIxL K) ix_list (pv 0) (pv 5) (fun _ _ => rfl)) pe_int (fun _ _ => rfl))))
        (pss_one (ps_if (pt_cmpR op_gt (pe_callB (cr_sum rfl) (by rfl) T.b_sum (by decide +kernel) (pa_cons (pv 4) pa_nil)) (pv 1) (nomark _)) (pss_one (ps_ret pe_bl)) pss_nil))))
      (pss_one (ps_ret pe_bl))), ?_⟩
    refine ⟨_, rfl, pst, rfl, ⟨_, sq_tup hs⟩, for_tup (K := K) (a := pst) (xs := S.map V.int) (fun i σ H' => ∃ y3 y4 y5, σ = [some (.ref pl), some (.int z), some (.ref pst), y3, y4, y5] ∧ Same H H' ∧ ∀ j, j < i → ld (spW ws (sF S) ws.length) (sF S j) ≤ z)
      ⟨none, none, none, rfl, Same.refl _, fun j hj => absurd hj (Nat.not_lt_zero _)⟩ (fun i σ H' _ h => by obtain ⟨_, _, _, _, sm, _⟩ := h; exact sq_tup (sm _ _ hs)) (fun i x σ H1 hx hI => ?_) (fun σ H1 hI => ?_)⟩
    · obtain ⟨y3, y4, y5, rfl, s1, no⟩ := hI
      obtain ⟨m, hm, rfl⟩ := at_map hx
      have em : sF S i = m := by unfold sF; rw [List.getD_eq_getElem?_getD, hm]; rfl
      refine ⟨_, rfl, pst, _, rfl, .inr (sq_tup (s1 _ _ hs)), _, rfl, by rw [List.length_map]; omega, by rw [List.length_map]; omega, fun D nD => ?_⟩
      refine lc_range (lo := 0) (n := (((S.map V.int).length : Nat) : Int).toNat) (fun i H' => H' D = some (.lst ((((List.range i).filter (runP ws S m)).map (nd ws)).map V.int)) ∧ Same H1 H') ⟨upd_same, same_upd nD⟩ (fun k H2 hk hI => ?_) (fun H2 hI => ?_)
      · obtain ⟨hD, sm⟩ := hI
        rw [Int.toNat_natCast, List.length_map] at hk
        rw [show ((0 : Int) + (k : Nat)) = (k : Int) by omega]
        have s2 := s1.trans sm
        obtain ⟨pk, uk, hpk⟩ := wd_at lv (k := k) (by omega)
        have ak := atI_nat (sF_at (S := S) (j := k) (by omega))
        have lf := filt_len (runP ws S m) k
        have er : runP ws S m k = decide (sF S k ≤ m ∧ m < sF S k + ln ws k) := rfl
        refine ⟨rfl, _, rfl, _, rfl, pst, _, (k : Int), _, rfl, rfl, sq_tup (s2 _ _ hs), ak, _, rfl, _, _, rfl, rfl, _, rfl, ite2 (fun c1 => ?_) (fun c1 => ?_)⟩
        · refine ⟨_, rfl, _, rfl, _, rfl, pst, _, (k : Int), _, rfl, rfl, sq_tup (s2 _ _ hs), ak, _, rfl, _, rfl, pl, us, (k : Int), _, rfl, rfl, sq_lst (s2 _ _ hl), atI_nat uk, pk, _, 2, _, rfl, rfl, sq_tup (s2 _ _ hpk), rfl, _, _, rfl, rfl, _, _, rfl, rfl, _, rfl, ite2 (fun c2 => ?_) (fun c2 => ?_)⟩
          · refine ⟨_, rfl, _, rfl, pl, us, (k : Int), _, rfl, rfl, sq_lst (s2 _ _ hl), atI_nat uk, pk, _, 3, _, rfl, rfl, sq_tup (s2 _ _ hpk), rfl, _, hD, by rw [List.length_map, List.length_map]; exact small1000 (by omega), ?_, same_at sm nD⟩
            rw [upd_same, filter_range_succ, er, if_pos (decide_eq_true ⟨of_decide_eq_true c1, of_decide_eq_true c2⟩), List.map_append, List.map_append]; rfl
          · refine ⟨?_, sm⟩
            rw [hD, filter_range_succ, er, if_neg (fun z => c2 (decide_eq_true (of_decide_eq_true z).2)), List.append_nil]
        · refine ⟨?_, sm⟩
          rw [hD, filter_range_succ, er, if_neg (fun z => c1 (decide_eq_true (of_decide_eq_true z).1)), List.append_nil]
      · obtain ⟨hD, sm⟩ := hI
        rw [Int.toNat_natCast, List.length_map, lS] at hD
        have s2 := s1.trans sm
        have ev : ((List.filter (runP ws S m) (List.range ws.length)).map (nd ws)).sum = ld (spW ws (sF S) ws.length) m := by rw [ls_map, ld_run]
        refine ⟨_, rfl, D, _, rfl, sq_lst hD, _, rfl, _, _, rfl, rfl, _, rfl, ?_⟩
        rw [ev]
        refine ite2 (fun c1 => ?_) (fun c1 => ?_)
        · have c1 : z < ld (spW ws (sF S) ws.length) m := of_decide_eq_true c1
          refine q false _ ⟨(fun h => by cases h), fun h => ?_⟩ s2
          have := h i (by have := (List.getElem?_eq_some_iff.mp hm).1; omega)
          rw [em] at this
          omega
        · have c1 : ¬ z < ld (spW ws (sF S) ws.length) m := fun h => c1 (decide_eq_true h)
          refine ⟨_, _, _, rfl, s2, fun j hj => ?_⟩
          rcases Nat.lt_or_eq_of_le (Nat.le_of_lt_succ hj) with g | g
          · exact no j g
          · subst g; rw [em]; omega
    · obtain ⟨y3, y4, y5, rfl, s1, no⟩ := hI
      rw [List.length_map, lS] at no
      exact q true _ ⟨fun _ => no, fun _ => rfl⟩ s1
abbrev s_Lall_starts : Stmt := topS 115
abbrev n_Lall_starts : List Str := ["windows", "found", "low", "high", "length", "need", "longer", "some", "value"]
theorem sc_Lall_starts : FnScope n_Lall_starts ["windows"] (defScope s_Lall_starts) := ⟨rfl, rfl, rfl, by decide +kernel, rfl, by decide +kernel, by decide +kernel⟩
def spAll : Sp := fun vs H Q _ => ∃ (pl : Addr) (us : List V) (ws : List Wd), vs = [.ref pl] ∧ H pl = some (.lst us) ∧ All2 (WdV H) us ws ∧ ws.length ≤ 20 ∧ (∀ i, i ≤ ws.length → prodW (ws.take i) ≤ 500) ∧ (∀ w ∈ ws, w.1 ≤ w.2.1 ∧ -1000000 ≤ w.1 ∧ w.2.1 ≤ 1000000) ∧ ∀ D ys H', Same H H' → H' D = some (.lst ys) → All2 (LV H') ys (allF ws) → Q (.ref D) H'
theorem ok_Lall_starts {f : Addr} {fd : FuncData} (F : Fun K "_law_all_starts" "_law_all_starts" s_Lall_starts f fd) (T : Txt K mg w aW aT es nn) : FnOk P w K mg base CX0 1 f fd ["windows"] spAll := by
  refine F.ok sc_Lall_starts (fun vs H Q E h => ?_) (fun cdv A outer s0 H vs Q E hr h => ?_)
  · obtain ⟨pl, us, ws, rfl, _⟩ := h
    rfl
  · obtain ⟨pl, us, ws, rfl, hp, lv, few, pr, bd, q⟩ := h
    have lus := lv.len
    refine ⟨_, (pss_cons (ps_set (i := 1) sc_Lall_starts.nd rfl (.inl rfl) (pe_lst (pa_cons (pe_tup pa_nil) pa_nil)))
      (pss_cons (ps_for PassesOwn.never rfl (pi_list (pv 0)) (pg_tup rfl (pgs_cons (pg_name (i := 2) sc_Lall_starts.nd rfl (.inl rfl)) (pgs_cons (pg_name (i := 3) sc_Lall_starts.nd rfl (.inl rfl)) (pgs_cons (pg_name (i := 4) sc_Lall_starts.nd rfl (.inl rfl)) (pgs_cons (pg_name (i := 5) sc_Lall_starts.nd rfl (.inl rfl)) pgs_nil))))) (pss_cons (ps_set (i := 6) sc_Lall_starts.nd rfl (.inl rfl) (pe_lst pa_nil))
        (pss_cons (ps_for PassesOwn.never rfl (pi_list (pv 1)) (pg_name (i := 7) sc_Lall_starts.nd rfl (.inr rfl)) (pss_one (ps_set (i := 6) sc_Lall_starts.nd rfl (.inl rfl) (pe_op op_cat (pv 6) (pe_lc (own := [("value", 8)]) rfl sc_Lall_starts.nd (pi_range2 (by rfl) T.b_range (pa_cons (pv 2) (pa_cons (pe_op op_add (pv 3) pe_int) pa_nil))) (blkOk_by (N := n_Lall_starts) (sc := defScope s_Lall_starts) (by decide +kernel)) (fun _ _ _ _ _ => (pg_name (i := 8) sc_Lall_starts.nd rfl (.inl rfl))) (fun _ _ _ _ _ => pts_nil) (fun _ _ _ _ _ => (pe_op (r := rCatA K) op_catA (pv 7) (pe_tup (pa_cons (pv 8) pa_nil)))))))))
        (pss_one (ps_set (i := 1) sc_Lall_starts.nd rfl (.inl rfl) (pv 6))))))
      (pss_one (ps_ret (pv 1))))), ?_⟩
    refine ⟨Nat.zero_le _, fun t0 nt0 => ⟨len1, fun p0 np0 => ?_⟩⟩
    have k1 := same_upd (o := .tup []) nt0
    have k2 := same_upd (o := .lst [.ref t0]) np0
    have h0 : upd (upd H t0 (.tup [])) p0 (.lst [.ref t0]) t0 = some (.tup []) := k2 _ _ upd_same
    refine ⟨_, rfl, pl, rfl, ⟨_, sq_lst ((k1.trans k2) _ _ hp)⟩, for_list (K := K) (a := pl) (xs := us) (fun i σ H' => ∃ y2 y3 y4 y5 y6 y7 y8 pf fs, σ = [some (.ref pl), some (.ref pf), y2, y3, y4, y5, y6, y7, y8] ∧ Same H H' ∧ H' pf = some (.lst fs) ∧ All2 (LV H') fs (allF (ws.take i)))
      ⟨none, none, none, none, none, none, none, p0, _, rfl, k1.trans k2, upd_same, .cons ⟨t0, rfl, h0⟩ .nil⟩ (fun i σ H' _ h => by obtain ⟨_, _, _, _, _, _, _, _, _, _, sm, _⟩ := h; exact sq_lst (sm _ _ hp)) (fun i x σ H1 hx hI => ?_) (fun σ H1 hI => ?_)⟩
    · obtain ⟨y2, y3, y4, y5, y6, y7, y8, pf, fs, rfl, s1, hf, fv⟩ := hI
      obtain ⟨d, hd, pd, rfl, hpd⟩ := lv.at_ hx
      have li := (List.getElem?_eq_some_iff.mp hd).1
      obtain ⟨b1, b2, b3⟩ := bd d (List.mem_of_getElem? hd)
      refine ⟨pd, _, rfl, sq_tup (s1 _ _ hpd), rfl, _, _, rfl, _, _, rfl, _, _, rfl, _, _, rfl, rfl, ?_⟩
      refine ⟨Nat.zero_le _, fun l0 nl0 => ?_⟩
      have k3 := same_upd (o := .lst []) nl0
      have hf3 := k3 _ _ hf
      have fv3 := lvTk (TK.of k3) fv
      have hl3 : upd H1 l0 (.lst []) l0 = some (.lst []) := upd_same
      have s3 := s1.trans k3
      generalize upd H1 l0 (.lst []) = H3 at *
      have tot := pr (i + 1) (by omega)
      have tot0 := pr i (by omega)
      rw [take_one hd, prodW_snoc] at tot
      have la := allF_len (ws := ws) i (by omega)
      have lfs : fs.length = prodW (ws.take i) := by rw [fv.len, la]
      refine ⟨_, rfl, pf, rfl, ⟨_, sq_lst hf3⟩, for_list (K := K) (a := pf) (xs := fs) (fun j σ H' => ∃ y7 y8 pg gs, σ = [some (.ref pl), some (.ref pf), some (.int d.1), some (.int d.2.1), some (.int d.2.2.1), some (.int d.2.2.2), some (.ref pg), y7, y8] ∧ Same H3 H' ∧ H' pg = some (.lst gs) ∧ All2 (LV H') gs (((allF (ws.take i)).take j).flatMap (extS d)))
        ⟨y7, y8, l0, [], rfl, Same.refl _, hl3, .nil⟩ (fun j σ H' _ h => by obtain ⟨_, _, _, _, _, sm, _⟩ := h; exact sq_lst (sm _ _ hf3)) (fun j x σ H4 hx4 hI => ?_) (fun σ H4 hI => ?_)⟩
      · obtain ⟨y7, y8, pg, gs, rfl, s4, hg, gv⟩ := hI
        obtain ⟨s, hs, psr, rfl, hps⟩ := fv3.at_ hx4
        have lj := (List.getElem?_eq_some_iff.mp hs).1
        have ls_ := (allF_mem (ws := ws) i (by omega) s (List.mem_of_getElem? hs)).1
        have hps4 := s4 _ _ hps
        have lgs : gs.length = j * manyW d := by rw [gv.len, fm_len, List.length_take, Nat.min_eq_left (by omega)]
        have lmax : (j + 1) * manyW d ≤ 500 := Nat.le_trans (Nat.mul_le_mul_right _ (by omega : j + 1 ≤ prodW (ws.take i))) tot
        have emany : (d.2.1 + 1 - d.1).toNat = manyW d := rfl
        have eml : j * manyW d + manyW d = (j + 1) * manyW d := (Nat.succ_mul ..).symm
        refine ⟨_, rfl, _, rfl, _, rfl, _, _, rfl, rfl, _, _, rfl, ⟨by omega, by omega, by omega, by omega⟩, fun D nD => ?_⟩
        refine lc_range (lo := d.1) (n := (d.2.1 + 1 - d.1).toNat) (fun k H' => ∃ zs, H' D = some (.lst zs) ∧ All2 (LV H') zs ((ups d.1 k).map fun v => s ++ [v]) ∧ Same H4 H') ⟨[], upd_same, .nil, same_upd nD⟩ (fun k H5 hk hI => ?_) (fun H5 hI => ?_)
        · obtain ⟨zs, hD, zv, sm⟩ := hI
          have lzs : zs.length = k := by rw [zv.len, List.length_map, ups_len]
          refine ⟨rfl, _, rfl, _, rfl, len1, fun t nt => ?_⟩
          have k6 := same_upd (o := .tup [.int (d.1 + (k : Nat))]) nt
          have et : upd H5 t (.tup [.int (d.1 + (k : Nat))]) t = some (.tup [.int (d.1 + (k : Nat))]) := upd_same
          have fin : ∀ p H6, Same (upd H5 t (.tup [.int (d.1 + (k : Nat))])) H6 → H6 p = some (tI (s ++ [d.1 + (k : Nat)])) → ∃ xs, H6 D = some (.lst xs) ∧ xs.length < sizeLine ∧ ∃ zs', upd H6 D (.lst (xs ++ [.ref p])) D = some (.lst zs') ∧ All2 (LV (upd H6 D (.lst (xs ++ [.ref p])))) zs' ((ups d.1 (k + 1)).map fun v => s ++ [v]) ∧ Same H4 (upd H6 D (.lst (xs ++ [.ref p]))) := fun p H6 s6 hp6 => by
            have hD6 := s6 _ _ (k6 _ _ hD)
            refine ⟨zs, hD6, small1000 (by omega), zs ++ [.ref p], upd_same, ?_, same_at ((sm.trans k6).trans s6) nD⟩
            simp only [ups]
            rw [List.map_append]
            exact lvTk (TK.put hD6) ((lvTk (TK.of (k6.trans s6)) zv).app ⟨p, rfl, hp6⟩)
          refine ⟨psr, t, s.map V.int, _, rfl, rfl, sq_tup (k6 _ _ (sm _ _ hps4)), sq_tup et, by rw [List.length_map, sizeLine_eq]; show _ + 1 ≤ _; omega, fun e => ?_, (fun _ e => by cases e), fun _ _ p np => ?_⟩
          · have e : s = [] := List.map_eq_nil_iff.mp e
            subst e
            exact fin t _ (Same.refl _) et
          · refine fin p _ (same_upd np) ?_
            rw [upd_same]; unfold tI; rw [List.map_append]; rfl
        · obtain ⟨zs, hD, zv, sm⟩ := hI
          have lzs : zs.length = manyW d := by rw [zv.len, List.length_map, ups_len]; rfl
          refine ⟨pg, D, gs, zs, rfl, rfl, sm _ _ hg, hD, by rw [lgs, lzs, sizeLine_eq]; omega, fun pn npn => ?_⟩
          have k7 := same_upd (o := .lst (gs ++ zs)) npn
          refine ⟨_, _, pn, gs ++ zs, rfl, (s4.trans sm).trans k7, upd_same, ?_⟩
          rw [take_one hs, List.flatMap_append]
          have e1 : List.flatMap (extS d) [s] = (ups d.1 (d.2.1 + 1 - d.1).toNat).map fun v => s ++ [v] := by simp [extS, vals, manyW]
          rw [e1]
          exact (lvTk (TK.of (sm.trans k7)) gv).appl (lvTk (TK.of k7) zv)
      · obtain ⟨y7, y8, pg, gs, rfl, s4, hg, gv⟩ := hI
        rw [fv.len, List.take_length] at gv
        refine ⟨_, rfl, _, _, _, _, _, _, _, pg, gs, rfl, s3.trans s4, hg, ?_⟩
        rw [take_one hd, allF_snoc]; exact gv
    · obtain ⟨y2, y3, y4, y5, y6, y7, y8, pf, fs, rfl, s1, hf, fv⟩ := hI
      rw [lus, List.take_length] at fv
      exact ⟨_, rfl, q pf fs _ s1 hf fv⟩
end
end M60

namespace M60
open PySem PySem.Spec PyProof.Rows L2 SX Own Gd
open C8 (Cal pe_c pe_gc pe_mk Mak pss_cut)
open M12 (Sn ld net Pos ld_nn cov lb lb_le lb_step lb_nil)
open M12 (ups)
theorem prod_le {ws : List Wd} {z : Int} (ok : WsOk ws z) {i : Nat} : ∀ d, i + d ≤ ws.length → prodW (ws.take i) ≤ prodW (ws.take (i + d))
  | 0, _ => Nat.le_refl _
  | d + 1, h => by
    have a := prod_le ok (i := i) d (by omega)
    have hi_ : i + d < ws.length := by omega
    rw [show i + (d + 1) = (i + d) + 1 by omega, take_one (List.getElem?_eq_getElem hi_), prodW_snoc]
    have b : 1 ≤ manyW ws[i + d] := by
      have := ok.ord (i + d) hi_
      unfold lo hi at this
      rw [gW_at hi_] at this
      unfold manyW; omega
    exact Nat.le_trans a (by have := Nat.mul_le_mul_left (prodW (ws.take (i + d))) b; omega)
theorem drawsG_fst {ws : List Wd} {z : Int} {fs gs : List Int} (il : IsLows ws fs) (ig : IsLows (bw ws) gs) (js : List Jb) : ∀ n, (drawsG js ws (startG ws z fs) (startG (bw ws) z gs) n).map Prod.fst = drawsN false z js ws n
  | 0 => rfl
  | n + 1 => by
    rw [drawsG_succ, drawsN_succ, List.map_append, List.map_append, drawsG_fst il ig js n, dr0G_fst, dr1G_fst, startG_fst il, startG_fst ig]; rfl
theorem places_at {js : List Jb} {m : Nat} (h : m < js.length) : (natJ (js.map (·.1)))[m]? = some (.int ((jA js m).1 : Int)) := by
  unfold natJ
  rw [List.getElem?_map, List.getElem?_map, List.getElem?_eq_getElem h, jA_at h]; rfl
theorem Flt.lf {k : Int} (L : Lf) : Flt 3 (lfD k L) := by
  have hJ : ∀ J : List Nat, Flt 2 (.tuple (J.map fun a : Nat => PyData.int (a : Int))) := fun J => .tup (k := 1) fun d hd => by
    obtain ⟨a, _, rfl⟩ := List.mem_map.mp hd
    exact .int _
  cases L with
  | late i o =>
    refine .tup (k := 2) fun d hd => ?_
    simp only [List.mem_cons, List.mem_nil_iff, or_false] at hd
    rcases hd with rfl | rfl | rfl | rfl
    · exact Flt.strL.1
    all_goals exact .int _
  | load J f l =>
    refine .tup (k := 2) fun d hd => ?_
    simp only [List.mem_cons, List.mem_nil_iff, or_false] at hd
    rcases hd with rfl | rfl | rfl | rfl | rfl
    · exact Flt.strL.2.1
    · exact .int _
    · exact hJ J
    all_goals exact .int _
  | full J m =>
    refine .tup (k := 2) fun d hd => ?_
    simp only [List.mem_cons, List.mem_nil_iff, or_false] at hd
    rcases hd with rfl | rfl | rfl | rfl
    · exact Flt.strL.2.2.1
    · exact .int _
    · exact hJ J
    · exact .int _
theorem Flt.dl {k : Int} (d : Dl) : Flt 4 (dlD k d) := .tup (k := 3) fun e he => by
  simp only [List.mem_cons, List.mem_nil_iff, or_false] at he
  rcases he with rfl | rfl | rfl | rfl
  · exact .int _
  · exact .int _
  · exact .int _
  · exact .lf _
theorem leafD_sh : SeqAt.shaped (.tuple [.str "leaf"]) = true := (Flt.tup (k := 1) fun d hd => by rw [List.mem_singleton.mp hd]; exact Flt.strL.2.2.2).sh (by decide)
theorem drD_sh {k : Int} (ds : List Dl) : SeqAt.shaped (.tuple ((ds.map (dlD k)).take 1)) = true := (Flt.tup (k := 4) fun d hd => by
  obtain ⟨x, _, rfl⟩ := List.mem_map.mp (List.mem_of_mem_take hd)
  exact .dl x).sh (by decide)
theorem drD_ne {k : Int} (ds : List Dl) : PyData.eqv (.tuple ((ds.map (dlD k)).take 1)) (.tuple [.str "leaf"]) = false := by
  cases ds with
  | nil => rfl
  | cons e r => rfl
section
variable {P : Program} {w : World} {K : PySem.W.Frag} {mg : Str → Option Value} {base : Heap} {aW aT : Addr} {es : Array DictEntry} {nn : Nat}
abbrev s_Lnone_lost : Stmt := topS 116
abbrev n_Lnone_lost : List Str := ["task", "k", "box", "told", "windows", "size", "starts", "places", "beyond", "at", "side", "value", "leaf", "start", "job"]
theorem sc_Lnone_lost : FnScope n_Lnone_lost ["task", "k", "box", "told"] (defScope s_Lnone_lost) := ⟨rfl, rfl, rfl, by decide +kernel, rfl, by decide +kernel, by decide +kernel⟩
def spNoL (C : Addr) : Sp := fun vs H Q _ => ∃ (tv bv told : V) (k n : Nat) (x : Wish) (bx : Bx), vs = [tv, .int k, bv, told] ∧ TwB C H tv bv k n x bx ∧ BxOk bx ∧ (∀ r ∈ bx, -1000 ≤ r.1 ∧ r.2 ≤ 1000) ∧ n ≤ 100 ∧ prodW (wsOf x.jobs bx) ≤ 150 ∧ ToldV k H told x bx ∧ ∀ H', Same H H' → Q (.bl true) H'
theorem ok_Lnone_lost {f C : Addr} {fd : FuncData} (F : Fun K "_law_none_lost" "_law_none_lost" s_Lnone_lost f fd) (T : Txt K mg w aW aT es nn) (cc : CC K C) (c_Lwindows : Cal P w K mg base 1 "_law_windows" spLWin []) (c_Lall_starts : Cal P w K mg base 1 "_law_all_starts" spAll []) (c_Lkeeps : Cal P w K mg base 1 "_law_keeps" spKeepsT []) : FnOk P w K mg base CX0 2 f fd ["task", "k", "box", "told"] (spNoL C) := by
  refine F.ok sc_Lnone_lost (fun vs H Q E h => ?_) (fun cdv A outer s0 H vs Q E hr h => ?_)
  · obtain ⟨tv, bv, told, k, n, x, bx, rfl, _⟩ := h
    rfl
  · obtain ⟨tv, bv, told, k, n, y, bx, rfl, tw, bo, bb, n100, pr150, tdv, q⟩ := h
    obtain ⟨⟨ul, wl, goal, ⟨x, dx, pu, pw, pg, us, wsv, rfl, hx, hpu, uv, hpw, wv, hpg⟩, hk, en⟩, ok, hJ, bv_, bl⟩ := id tw
    obtain ⟨vw, hwk, wvk⟩ := wv.at2 hk
    have wj := ok.wj hJ
    have wb := wsb_of wj bo bl
    have lws := ws_len y.jobs bx
    have few := wb.few
    have z1 := wb.z1
    have prs : ∀ i, i ≤ (wsOf y.jobs bx).length → prodW ((wsOf y.jobs bx).take i) ≤ 500 := fun i hi_ => by
      have m1 := prod_le wb.ok (i := i) ((wsOf y.jobs bx).length - i) (by omega)
      rw [show i + ((wsOf y.jobs bx).length - i) = (wsOf y.jobs bx).length by omega, List.take_length] at m1
      omega
    have wbd : ∀ w ∈ wsOf y.jobs bx, w.1 ≤ w.2.1 ∧ -1000000 ≤ w.1 ∧ w.2.1 ≤ 1000000 := fun w hw => by
      obtain ⟨j, hj, rfl⟩ := List.mem_map.mp hw
      have pl := wj.ok.pl _ hj
      have m := bx_mem (b := bx) (p := j.1) (by omega)
      have h1 := bo _ m
      have h2 := bb _ m
      show (bxAt bx j.1).1 ≤ (bxAt bx j.1).2 ∧ -1000000 ≤ (bxAt bx j.1).1 ∧ (bxAt bx j.1).2 ≤ 1000000
      omega
    have tru : ∀ S : List Int, S ∈ allF (wsOf y.jobs bx) → S.length = (wsOf y.jobs bx).length ∧ InW (wsOf y.jobs bx) (sF S) := fun S hS => by
      have am := allF_mem (ws := wsOf y.jobs bx) _ (Nat.le_refl _) S (by rw [List.take_length]; exact hS)
      exact ⟨am.1, fun k hk => am.2 k hk⟩
    refine ⟨_, (pss_cut (ps_asg (pe_c c_Lwindows hr (by decide) (by rfl) (pa_cons (pe_ix ix_tup (pe_fld (pv 0) (by rfl)) (pv 1) (fun _ _ => rfl)) (pa_cons (pv 2) pa_nil))) (pg_tup rfl (pgs_cons (pg_name (i := 4) sc_Lnone_lost.nd rfl (.inr rfl)) (pgs_cons (pg_name (i := 5) sc_Lnone_lost.nd rfl (.inr rfl)) pgs_nil))))
      (pss_cons (ps_if (pt_cmpR (op_eqD hr.units) (pe_slice sl_tupA (pv 3) po_none (po_some pe_int)) (pe_tup (pa_cons pe_str pa_nil)) (nomark _)) (pss_one (ps_ret (pe_not (pe_callB (cr_any rfl) (by rfl) T.b_any (by decide +kernel) (pa_cons (pe_lc (own := [("starts", 6)]) rfl sc_Lnone_lost.nd (pi_list (pe_c c_Lall_starts hr (by decide) (by rfl) (pa_cons (pv 4) pa_nil))) (blkOk_by (N := n_Lnone_lost) (sc := defScope s_Lnone_lost) (by decide +kernel)) (fun _ _ _ _ _ => (pg_name (i := 6) sc_Lnone_lost.nd rfl (.inl rfl))) (fun _ _ _ _ _ => pts_nil) (fun _ _ _ _ _ => (pe_c c_Lkeeps hr (by decide) (by rfl) (pa_cons (pv 4) (pa_cons (pv 5) (pa_cons (pv 6) pa_nil)))))) pa_nil))))) pss_nil)
      (pss_cut (ps_setLc (i := 7) (own := [("job", 14)]) rfl sc_Lnone_lost.nd rfl rfl (sw_true rfl rfl rfl (by decide +kernel)) (pi_tup (pe_ix ix_tup (pe_ix ix_tup (pe_fld (pv 0) (by rfl)) (pv 1) (fun _ _ => rfl)) pe_int (fun _ _ => rfl))) (blkOk_by (N := n_Lnone_lost) (sc := defScope s_Lnone_lost) (by decide +kernel)) (fun _ _ _ _ _ => (pg_name (i := 14) sc_Lnone_lost.nd rfl (.inl rfl))) (fun _ _ _ _ _ => pts_nil) (fun _ _ _ _ _ => (pe_ix (r := rIxT K) ix_tup (pv 14) pe_int (fun _ _ => rfl))))
      (pss_cons (ps_for PassesOwn.never rfl (pi_list (pe_c c_Lall_starts hr (by decide) (by rfl) (pa_cons (pv 4) pa_nil))) (pg_name (i := 6) sc_Lnone_lost.nd rfl (.inl rfl)) (pss_cons (ps_set (i := 8) sc_Lnone_lost.nd rfl (.inl rfl) pe_bl)
        (pss_cons (ps_for PassesOwn.never rfl (pi_tup (pv 3)) (pg_tup rfl (pgs_cons (pg_name (i := 9) sc_Lnone_lost.nd rfl (.inl rfl)) (pgs_cons (pg_name (i := 10) sc_Lnone_lost.nd rfl (.inl rfl)) (pgs_cons (pg_name (i := 11) sc_Lnone_lost.nd rfl (.inl rfl)) (pgs_cons (pg_name (i := 12) sc_Lnone_lost.nd rfl (.inl rfl)) pgs_nil))))) (pss_cons (ps_set (i := 13) sc_Lnone_lost.nd rfl (.inl rfl) (pe_ix ix_tup (pv 6) (pe_bm PySem.F.plainAttrs_list PySem.F.slot_list_index PySem.F.type_list_index mt_index (pv 7) (pa_cons (pv 9) pa_nil)) (fun _ _ => rfl)))
          (pss_one (ps_set (i := 8) sc_Lnone_lost.nd rfl (.inl rfl) (pe_or (pv 8) (pe_or (pe_and (pe_cmpR op_eq (pv 10) pe_int (nomark _)) (pe_one (pe_cmpR op_lt (pv 13) (pv 11) (nomark _)))) (pe_one (pe_and (pe_cmpR op_eq (pv 10) pe_int (nomark _)) (pe_one (pe_cmpR op_gt (pv 13) (pv 11) (nomark _)))))))))))
        (pss_one (ps_if (PW.pt (pw_and (pt_truth (pv 8) (by intro _; rfl)) (pw_and1 (pt_val (pe_c c_Lkeeps hr (by decide) (by rfl) (pa_cons (pv 4) (pa_cons (pv 5) (pa_cons (pv 6) pa_nil)))))))) (pss_one (ps_ret pe_bl)) pss_nil)))))
      (pss_one (ps_ret pe_bl)))))), ?_⟩
    refine ⟨fun σ H' => ∃ vws, σ = [some (.ref x), some (.int (k : Nat)), some bv, some told, some vws, some (.int y.size), none, none, none, none, none, none, none, none, none] ∧ Same H H' ∧ LwV H' vws (wsOf y.jobs bx), ?_, fun σ H1 hM => ?_⟩
    · refine ⟨_, rfl, x, C, dx, _, _, rfl, hx, cc.cl, cc.nw, lk_w _ _ _, _, rfl, pw, _, _, _, rfl, rfl, sq_tup hpw, atI_nat hwk, ?_⟩
      refine ⟨_, rfl, vw, bv, n, y, bx, rfl, wvk, hJ, ok, bv_, bl, fun p v' H1 s1 hp lw1 => ?_⟩
      exact ⟨p, _, rfl, sq_tup hp, rfl, _, _, rfl, _, _, rfl, rfl, v', rfl, s1, lw1⟩
    obtain ⟨vws, rfl, s1, pl, us, rfl, hpl, lv⟩ := hM
    obtain ⟨fs, gs, il, ig, ⟨nl, pt, lf, L, rfl, hpt, lfv, lx⟩ | ⟨nl, pt, ds, rfl, hpt, dv⟩⟩ := tdv
    · refine ⟨_, rfl, ?_⟩
      unfold tNoPart
      refine ⟨_, rfl, ?_⟩
      refine sl1 (s1 _ _ hpt) fun q1 H2 s2 hq1 => ?_
      refine ⟨len1, fun t nt => ?_⟩
      have k3 := same_upd (o := .tup [.str "leaf"]) nt
      refine ⟨.tuple [.str "leaf"], .tuple [.str "leaf"], .tup (sq_tup (k3 _ _ hq1)) (.cons (.str _) .nil), .tup (sq_tup upd_same) (.cons (.str _) .nil), leafD_sh, leafD_sh, ?_⟩
      refine ⟨_, rfl, iteT' (by decide +kernel) ?_⟩
      have s03 := (s1.trans s2).trans k3
      have s13 := s2.trans k3
      generalize upd H2 t (.tup [.str "leaf"]) = H3 at *
      have lv3 := wdTk (TK.of s13) lv
      refine ⟨_, rfl, pl, us, _, rfl, s13 _ _ hpl, lv3, few, prs, wbd, fun D ys H4 s4 hD yv => ?_⟩
      have lv4 := wdTk (TK.of s4) lv3
      have hpl4 := s4 _ _ (s13 _ _ hpl)
      have lys : ys.length ≤ 500 := by
        rw [yv.len]
        have := allF_len (ws := wsOf y.jobs bx) _ (Nat.le_refl _)
        rw [List.take_length] at this
        omega
      refine ⟨D, rfl, ⟨_, sq_lst hD⟩, fun D2 nD2 => ?_⟩
      refine lc_list (K := K) (a := D) (xs := ys) (fun m H' => H' D2 = some (.lst ((List.replicate m false).map V.bl)) ∧ Same H4 H') ⟨upd_same, same_upd nD2⟩ (fun m H' _ h => sq_lst (h.2 _ _ hD)) ?_ ?_
      · rintro m xv H5 hx5 ⟨hD2, sm⟩
        obtain ⟨S, hS, ps, rfl, hps⟩ := yv.at_ hx5
        have lm := (List.getElem?_eq_some_iff.mp hx5).1
        obtain ⟨lS, inw⟩ := tru S (List.mem_of_getElem? hS)
        refine ⟨rfl, _, rfl, _, rfl, _, rfl, pl, ps, us, _, y.size, S, rfl, sm _ _ hpl4, wdTk (TK.of sm) lv4, few, sm _ _ hps, lS, fun bb H6 hb s6 => ?_⟩
        cases bb with
        | true =>
          have kp := kp_starts wb.ok (by omega) (hb.mp rfl)
          have := leaf_no wb.ok kp inw false
          rw [nl] at this; cases this
        | false =>
          have hD6 := s6 _ _ hD2
          refine ⟨_, hD6, by rw [List.length_map, List.length_replicate]; exact small1000 (by omega), ?_, same_at (sm.trans s6) nD2⟩
          rw [upd_same, List.replicate_succ', List.map_append]; rfl
      · rintro H5 ⟨hD2, sm⟩
        refine ⟨D2, _, rfl, sq_lst hD2, ?_⟩
        have e : (List.replicate ys.length false).any id = false := by
          rw [List.any_eq_false]
          intro b hb
          rw [List.eq_of_mem_replicate hb]; decide
        rw [e]
        exact ⟨_, rfl, q _ ((s03.trans s4).trans sm)⟩
    · have dv1 := drTk (TK.of s1) dv
      refine ⟨_, rfl, ?_⟩
      unfold tNoPart
      refine ⟨_, rfl, ?_⟩
      refine sl1 (s1 _ _ hpt) fun q1 H2 s2 hq1 => ?_
      refine ⟨len1, fun t nt => ?_⟩
      have k3 := same_upd (o := .tup [.str "leaf"]) nt
      have dv3 := drTk (TK.of (s2.trans k3)) dv1
      refine ⟨_, .tuple [.str "leaf"], .tup (sq_tup (k3 _ _ hq1)) (dpTake1 (drs_dp dv3)), .tup (sq_tup upd_same) (.cons (.str _) .nil), drD_sh _, leafD_sh, ?_⟩
      refine ⟨_, rfl, iteF' (by rw [drD_ne]; decide) ?_⟩
      have s13 := s2.trans k3
      have s03 := s1.trans s13
      generalize upd H2 t (.tup [.str "leaf"]) = H3 at *
      obtain ⟨pW, xW, pJ, uJ, rfl, hpW, hx1, hpJ, luJ, atJ⟩ := wvk.jobs hJ
      refine ⟨fun σ H' => ∃ pP, σ = [some (.ref x), some (.int (k : Nat)), some bv, some (.ref pt), some (.ref pl), some (.int y.size), none, some (.ref pP), none, none, none, none, none, none, none] ∧ Same H3 H' ∧ H' pP = some (.lst (natJ (y.jobs.map (·.1)))), ?_, fun σ H4 hM => ?_⟩
      · refine ⟨_, rfl, x, C, dx, _, _, rfl, s03 _ _ hx, cc.cl, cc.nw, lk_w _ _ _, _, rfl, pw, _, _, _, rfl, rfl, sq_tup (s03 _ _ hpw), atI_nat hwk, pW, xW, 1, _, rfl, rfl, sq_tup (s03 _ _ hpW), atI_nat (j := 1) hx1, pJ, rfl, ⟨_, sq_tup (s03 _ _ hpJ)⟩, fun D nD => ?_⟩
        have hpJ3 := s03 _ _ hpJ
        refine lc_tup (K := K) (a := pJ) (xs := uJ) (fun m H' => H' D = some (.lst (natJ ((y.jobs.map (·.1)).take m))) ∧ Same H3 H') ⟨upd_same, same_upd nD⟩ (fun m H' _ h => sq_tup (h.2 _ _ hpJ3)) ?_ ?_
        · rintro m xv H5 hx5 ⟨hD, sm⟩
          have lm : m < y.jobs.length := by have := (List.getElem?_eq_some_iff.mp hx5).1; omega
          obtain ⟨qj, rj, hqj, hq⟩ := atJ m lm
          rw [hqj] at hx5; cases hx5
          have hq5 := (s03.trans sm) _ _ hq
          have few2 := wj.few
          have hj : (y.jobs.map (·.1))[m]? = some (jA y.jobs m).1 := by rw [List.getElem?_map, List.getElem?_eq_getElem lm, jA_at lm]; rfl
          refine ⟨rfl, _, rfl, qj, _, 0, _, rfl, rfl, sq_tup hq5, atI_nat (j := 0) rfl, _, hD, by rw [natJ_len, List.length_take, List.length_map]; exact small1000 (by omega), ?_, same_at sm nD⟩
          rw [upd_same, take_one hj, natJ_app]; rfl
        · rintro H5 ⟨hD, sm⟩
          rw [luJ, ← List.length_map (f := fun j : Jb => j.1), List.take_length] at hD
          exact ⟨D, rfl, sm, hD⟩
      obtain ⟨pP, rfl, s34, hpP⟩ := hM
      have s14 := s13.trans s34
      have s04 := s03.trans s34
      have lv4 := wdTk (TK.of s14) lv
      have hpl4 := s14 _ _ hpl
      have dv4 := drTk (TK.of s34) dv3
      have hpt4 := s04 _ _ hpt
      refine ⟨_, rfl, pl, us, _, rfl, hpl4, lv4, few, prs, wbd, fun D ys H5 s5 hD yv => ?_⟩
      have lv5 := wdTk (TK.of s5) lv4
      have hpl5 := s5 _ _ hpl4
      have dv5 := drTk (TK.of s5) dv4
      have hpt5 := s5 _ _ hpt4
      have hpP5 := s5 _ _ hpP
      refine ⟨D, rfl, ⟨_, sq_lst hD⟩, for_list (K := K) (a := D) (xs := ys) (fun i σ H' => ∃ y6 y8 y9 y10 y11 y12 y13, σ = [some (.ref x), some (.int (k : Nat)), some bv, some (.ref pt), some (.ref pl), some (.int y.size), y6, some (.ref pP), y8, y9, y10, y11, y12, y13, none] ∧ Same H5 H') ⟨_, _, _, _, _, _, _, rfl, Same.refl _⟩ (fun i σ H' _ h => by obtain ⟨_, _, _, _, _, _, _, _, sm⟩ := h; exact sq_lst (sm _ _ hD)) (fun i xv σ H6 hx6 hI => ?_) (fun σ H6 hI => ?_)⟩
      · obtain ⟨y6, y8, y9, y10, y11, y12, y13, rfl, s6⟩ := hI
        obtain ⟨S, hS, ps, rfl, hps⟩ := yv.at_ hx6
        obtain ⟨lS, inw⟩ := tru S (List.mem_of_getElem? hS)
        have hpt6 := s6 _ _ hpt5
        refine ⟨_, rfl, pt, rfl, ⟨_, sq_tup hpt6⟩, for_tup (K := K) (a := pt) (xs := ds) (fun i σ H' => ∃ bq y9 y10 y11 y12 y13, σ = [some (.ref x), some (.int (k : Nat)), some bv, some (.ref pt), some (.ref pl), some (.int y.size), some (.ref ps), some (.ref pP), some (.bl bq), y9, y10, y11, y12, y13, none] ∧ Same H6 H' ∧ (Kp (wsOf y.jobs bx) y.size (sF S) → bq = false)) ⟨false, _, _, _, _, _, rfl, Same.refl _, fun _ => rfl⟩ (fun i σ H' _ h => by obtain ⟨_, _, _, _, _, _, _, sm, _⟩ := h; exact sq_tup (sm _ _ hpt6)) (fun i xv σ H7 hx7 hI => ?_) (fun σ H7 hI => ?_)⟩
        · obtain ⟨bq, y9, y10, y11, y12, y13, rfl, s7, hb⟩ := hI
          obtain ⟨d, hd, pd, lf, rfl, hpd, lvd⟩ := dv5.at_ hx7
          have s67 := s6.trans s7
          refine ⟨pd, _, rfl, sq_tup (s67 _ _ hpd), rfl, _, _, rfl, _, _, rfl, _, _, rfl, _, _, rfl, rfl, ?_⟩
          have fE := dueG_fst y.jobs (wsOf y.jobs bx) (startG (wsOf y.jobs bx) y.size fs) (startG (bw (wsOf y.jobs bx)) y.size gs) y.jobs.length
          have md := List.mem_of_getElem? hd
          obtain ⟨kk, lk, epl, sd⟩ : ∃ kk, kk < y.jobs.length ∧ d.1.1 = (jA y.jobs kk).1 ∧ (d.1.2.1 = 0 ∨ d.1.2.1 = 1) := by
            rw [← fE] at md
            obtain ⟨e, he, rfl⟩ := List.mem_map.mp md
            have o := dueG_ok wb.ok (by omega) nl il ig (js := y.jobs) _ (by omega) e he
            exact ⟨e.2.1, by have := o.j; omega, o.p, o.s1⟩
          have trd : Kp (wsOf y.jobs bx) y.size (sF S) → (d.1.2.1 = 0 → d.1.2.2 ≤ sF S kk) ∧ (d.1.2.1 ≠ 0 → sF S kk ≤ d.1.2.2) := fun kp => by
            have m2 : d.1 ∈ drawsF false y.size y.jobs bx := by
              unfold drawsF
              rw [← drawsG_fst il ig]
              exact List.mem_map.mpr ⟨d, md, rfl⟩
            obtain ⟨_, k', lk', e', t1, t2⟩ := draws_true wj.ok (by omega) bo bl false kp (inw_iff.mp inw) m2
            have : k' = kk := by
              by_cases g : k' = kk
              · exact g
              · exact absurd (e'.symm.trans epl) (jA_ne wj.ok lk' lk g)
            subst this
            exact ⟨t1, t2⟩
          have hps7 := s67 _ _ hps
          refine ⟨_, rfl, _, rfl, .inl ⟨rfl, _, sq_lst (s67 _ _ hpP5)⟩, _, rfl, pP, _, .int (d.1.1 : Int), kk, _, rfl, rfl, sq_lst (s67 _ _ hpP5), rfl, natJ_flat _, places_at lk, ?_, fun m z' hm hz => ?_, ?_⟩
          · rw [epl]; show ((((jA y.jobs kk).1 : Int)) == ((jA y.jobs kk).1 : Int)) = true; simp
          · rw [places_at (by omega)] at hz
            cases hz
            have := jA_ne wj.ok (show m < y.jobs.length by omega) lk (by omega)
            rw [epl]
            show ((((jA y.jobs m).1 : Int)) == ((jA y.jobs kk).1 : Int)) = false
            rw [beq_eq_false_iff_ne]
            omega
          · refine ⟨ps, _, (kk : Int), _, rfl, rfl, sq_tup hps7, atI_nat (sF_at (by omega)), _, rfl, _, rfl, ?_⟩
            cases bq with
            | true => exact iteT' rfl ⟨true, _, _, _, _, _, rfl, s7, fun kp => by have := hb kp; cases this⟩
            | false =>
              refine iteF' (by decide) ?_
              rcases sd with e0 | e1
              · refine ⟨_, rfl, rfl, _, rfl, iteT' (by rw [e0]; rfl) ?_⟩
                refine ⟨_, rfl, _, rfl, _, _, rfl, rfl, _, rfl, ite2 (fun c => ?_) (fun c => ?_)⟩
                · refine ⟨_, _, _, _, _, _, rfl, s7, fun kp => ?_⟩
                  have := (trd kp).1 e0
                  have c := of_decide_eq_true c
                  exfalso; omega
                · refine ⟨_, rfl, rfl, _, rfl, iteF' (by rw [e0]; decide) ?_⟩
                  exact ⟨_, _, _, _, _, _, rfl, s7, fun _ => by first | rfl | (rw [e0]; rfl)⟩
              · refine ⟨_, rfl, rfl, _, rfl, iteF' (by rw [e1]; decide) ?_⟩
                refine ⟨_, rfl, iteF' (by first | decide | (rw [e1]; decide)) ?_⟩
                refine ⟨_, rfl, rfl, _, rfl, iteT' (by rw [e1]; rfl) ?_⟩
                refine ⟨_, rfl, _, rfl, _, _, rfl, rfl, ?_⟩
                refine ⟨_, _, _, _, _, _, rfl, s7, fun kp => ?_⟩
                have := (trd kp).2 (by omega)
                exact decide_eq_false (by omega)
        · obtain ⟨bq, y9, y10, y11, y12, y13, rfl, s7, hb⟩ := hI
          have s67 := s6.trans s7
          cases bq with
          | false => 
            refine ⟨_, rfl, false, rfl, iteF' (by decide) ?_⟩
            exact iteF' (by decide) ⟨_, _, _, _, _, _, _, rfl, s67⟩
          | true =>
            refine ⟨_, rfl, true, rfl, iteT' rfl ?_⟩
            refine ⟨_, rfl, _, rfl, _, rfl, pl, ps, us, _, y.size, S, rfl, s67 _ _ hpl5, wdTk (TK.of s67) lv5, few, s67 _ _ hps, lS, fun bb H8 hbb s8 => ?_⟩
            cases bb with
            | true =>
              have kp := kp_starts wb.ok (by omega) (hbb.mp rfl)
              have := hb kp
              cases this
            | false => exact ⟨_, rfl, iteF' (by decide) ⟨_, _, _, _, _, _, _, rfl, s67.trans s8⟩⟩
      · obtain ⟨y6, y8, y9, y10, y11, y12, y13, rfl, s6⟩ := hI
        exact q _ ((s04.trans s5).trans s6)
end
end M60

namespace M60
open PySem PySem.Spec PyProof.Rows L2 SX Own Gd
open C8 (Cal pe_c pe_gc pe_mk Mak pss_cut)
open M12 (Sn ld net Pos ld_nn cov lb lb_le lb_step lb_nil)
theorem LeafX.one {ws : List Wd} {z : Int} {fs : List Int} {L L' : Lf} (h : LeafX ws z fs L) (g : LeafX ws z fs L') : L = L' := by
  have no : ∀ {j l : Nat}, LateFirst ws z j l → lateB ws z = false → False := fun {j l} h e => by
    have := late_iff.mpr ⟨j, l, h.1, h.2.1, h.2.2.1⟩
    rw [e] at this; cases this
  rcases h with ⟨j, l, h, rfl⟩ | ⟨e, f, l, h, rfl⟩ <;> rcases g with ⟨j', l', g, rfl⟩ | ⟨e', f', l', g, rfl⟩
  · obtain ⟨rfl, rfl⟩ := h.one g; rfl
  · exact (no h e').elim
  · exact (no g e).elim
  · rw [h] at g; cases g; rfl
theorem IsLows.one {ws : List Wd} {fs fs' : List Int} (h : IsLows ws fs) (g : IsLows ws fs') : fs = fs' := inc_ext _ _ h.1 g.1 fun k => (h.2 k).trans (g.2 k).symm
/-- windows that are small -/
structure Sml (ws : List Wd) : Prop where
  few : ws.length ≤ 20
  b : ∀ k, k < ws.length → -1000 ≤ lo ws k ∧ lo ws k ≤ 1000 ∧ -1000 ≤ hi ws k ∧ hi ws k ≤ 1000 ∧ 1 ≤ ln ws k ∧ ln ws k ≤ 1000 ∧ 1 ≤ nd ws k ∧ nd ws k ≤ 1000
theorem Sml.cg {ws : List Wd} {j : Nat} {a b : Int} (h : Sml ws) (hj : j < ws.length) (ha : -1000 ≤ a ∧ a ≤ 1000) (hb : -1000 ≤ b ∧ b ≤ 1000) : Sml (cg ws j a b) := by
  refine ⟨by rw [cg_len]; exact h.few, fun k hk => ?_⟩
  rw [cg_len] at hk
  have := h.b k hk
  rw [cg_lo hj, cg_hi hj, cg_ln hj, cg_nd hj]
  split <;> omega
theorem ls_cap {f : Nat → Int} {c : Int} : ∀ {J : List Nat}, (∀ a ∈ J, f a ≤ c) → ls f J ≤ c * (J.length : Int)
  | [], _ => by simp [ls]
  | a :: r, h => by
    have h1 := h a (List.mem_cons_self ..)
    have h2 := ls_cap (J := r) fun x hx => h x (List.mem_cons_of_mem _ hx)
    rw [List.length_cons]
    show f a + ls f r ≤ c * ((r.length + 1 : Nat) : Int)
    rw [show ((r.length + 1 : Nat) : Int) = (r.length : Int) + 1 by omega, Int.mul_add, Int.mul_one]
    omega
theorem shI {c : Int} (h1 : -100000000 ≤ c) (h2 : c ≤ 100000000) {k W : Nat} (hW : 40 ≤ W) : ShT.Shw k W (.int c) := (ShT.Shw.int (by omega)).mono (Nat.zero_le _) hW
theorem shJ {J : List Nat} (h : ∀ a ∈ J, a < 1000) (l : J.length ≤ 20) : ShT.Shw 1 820 (.tuple (J.map fun a : Nat => PyData.int (a : Int))) := by
  refine (ShT.Shw.tup (k := 0) (W := 40) (n := 20) (fun d hd => ?_) (by rw [List.length_map]; exact l)).mono (by decide) (by decide)
  obtain ⟨a, ha, rfl⟩ := List.mem_map.mp hd
  have := h a ha
  exact shI (by omega) (by omega) (Nat.le_refl _)
theorem lf_shw {ws : List Wd} {z : Int} {L : Lf} {k : Int} (sm : Sml ws) (z1 : 1 ≤ z) (k0 : 0 ≤ k) (kb : k ≤ 1000) (h : LfOk ws z L) : ShT.Shw 2 4105 (lfD k L) := by
  have few := sm.few
  cases L with
  | late i o =>
    obtain ⟨h1, h2, _⟩ := h
    refine (ShT.Shw.tup (k := 1) (W := 820) (n := 5) (fun d hd => ?_) (by simp)).mono (by decide) (by decide)
    simp only [List.mem_cons, List.mem_nil_iff, or_false] at hd
    rcases hd with rfl | rfl | rfl | rfl
    · exact (ShT.Shw.str (by decide +kernel) (by decide +kernel)).mono (by decide) (by decide)
    · exact shI (by omega) (by omega) (by decide)
    · exact shI (by omega) (by omega) (by decide)
    · exact shI (by omega) (by omega) (by decide)
  | load J f l =>
    obtain ⟨pw, mem, fl, big⟩ := h
    have lJ : J.length ≤ 20 := Nat.le_trans (pw_len pw fun a ha => (mem a ha).1) few
    have cap := ls_cap (f := wk ws) (c := 1000000) (J := J) fun a ha => by
      obtain ⟨_, _, _, _, b1, b2, b3, b4⟩ := sm.b a (mem a ha).1
      unfold wk
      have := Int.mul_le_mul b2 b4 (by omega) (by omega)
      omega
    have nn : l - f ≤ z * (l - f) := by
      have := Int.mul_le_mul_of_nonneg_right z1 (show 0 ≤ l - f by omega)
      omega
    obtain ⟨a, ha⟩ : ∃ a, a ∈ J := by
      cases J with
      | nil =>
        have : z * (l - f) < 0 := big
        omega
      | cons a r => exact ⟨a, List.mem_cons_self ..⟩
    obtain ⟨m1, m2, m3⟩ := mem a ha
    obtain ⟨b1, b2, b3, b4, b5, b6, _, _⟩ := sm.b a m1
    have m3 : hi ws a + ln ws a ≤ l := m3
    have capJ : 1000000 * (J.length : Int) ≤ 20000000 := by omega
    refine (ShT.Shw.tup (k := 1) (W := 820) (n := 5) (fun d hd => ?_) (by simp)).mono (by decide) (by decide)
    simp only [List.mem_cons, List.mem_nil_iff, or_false] at hd
    rcases hd with rfl | rfl | rfl | rfl | rfl
    · exact (ShT.Shw.str (by decide +kernel) (by decide +kernel)).mono (by decide) (by decide)
    · exact shI (by omega) (by omega) (by decide)
    · exact shJ (fun a ha => by have := (mem a ha).1; omega) lJ
    · exact shI (by omega) (by omega) (by decide)
    · exact shI (by omega) (by omega) (by decide)
  | full J m =>
    obtain ⟨pw, mem, big⟩ := h
    have lJ : J.length ≤ 20 := Nat.le_trans (pw_len pw fun a ha => (mem a ha).1) few
    obtain ⟨a, ha⟩ : ∃ a, a ∈ J := by
      cases J with
      | nil =>
        have : z < 0 := big
        omega
      | cons a r => exact ⟨a, List.mem_cons_self ..⟩
    obtain ⟨m1, m2, m3⟩ := mem a ha
    obtain ⟨b1, b2, b3, b4, b5, b6, _, _⟩ := sm.b a m1
    refine (ShT.Shw.tup (k := 1) (W := 820) (n := 5) (fun d hd => ?_) (by simp)).mono (by decide) (by decide)
    simp only [List.mem_cons, List.mem_nil_iff, or_false] at hd
    rcases hd with rfl | rfl | rfl | rfl
    · exact (ShT.Shw.str (by decide +kernel) (by decide +kernel)).mono (by decide) (by decide)
    · exact shI (by omega) (by omega) (by decide)
    · exact shJ (fun a ha => by have := (mem a ha).1; omega) lJ
    · exact shI (by omega) (by omega) (by decide)
theorem told_two {K : PySem.W.Frag} {k : Nat} {H : Hp} {v1 v2 : V} {x : Wish} {bx : Bx} (ok : WsOk (wsOf x.jobs bx) x.size) (z1 : 1 ≤ x.size) (sm : Sml (wsOf x.jobs bx)) (kb : k ≤ 1000) (pb : ∀ j ∈ x.jobs, j.1 ≤ 1000) (h : ToldV k H v1 x bx) (g : ToldV k H v2 x bx) :
    ∃ d p1 p2, v1 = .ref p1 ∧ v2 = .ref p2 ∧ Dp K H v1 d ∧ Dp K H v2 d ∧ ShT.Shw 60 1000000 d := by
  obtain ⟨fs, gs, il, ig, h⟩ := h
  obtain ⟨fs', gs', il', ig', g⟩ := g
  obtain rfl := il.one il'
  obtain rfl := ig.one ig'
  rcases h with ⟨nl, p, lf, L, rfl, hp, lv, lx⟩ | ⟨nl, p, ds, rfl, hp, dv⟩ <;> rcases g with ⟨nl', p', lf', L', rfl, hp', lv', lx'⟩ | ⟨nl', p', ds', rfl, hp', dv'⟩
  · obtain rfl := lx.one lx'
    refine ⟨.tuple [.str "leaf", lfD k L], p, p', rfl, rfl, .tup (sq_tup hp) (.cons (.str _) (.cons lv.dp .nil)), .tup (sq_tup hp') (.cons (.str _) (.cons lv'.dp .nil)), ?_⟩
    refine (ShT.Shw.tup (k := 2) (W := 4105) (n := 2) (fun d hd => ?_) (Nat.le_refl _)).mono (by decide) (by decide)
    simp only [List.mem_cons, List.mem_nil_iff, or_false] at hd
    rcases hd with rfl | rfl
    · exact (ShT.Shw.str (by decide +kernel) (by decide +kernel)).mono (by decide) (by decide)
    · exact lf_shw sm z1 (by omega) (by omega) (leafX_ok ok (by omega) lx).1
  · rw [nl] at nl'; cases nl'
  · rw [nl] at nl'; cases nl'
  · refine ⟨_, p, p', rfl, rfl, .tup (sq_tup hp) (drs_dp dv), .tup (sq_tup hp') (drs_dp dv'), ?_⟩
    have lw := ws_len x.jobs bx
    have few := sm.few
    have lD := drawsG_len x.jobs (wsOf x.jobs bx) (startG (wsOf x.jobs bx) x.size fs) (startG (bw (wsOf x.jobs bx)) x.size gs) x.jobs.length
    refine (ShT.Shw.tup (k := 3) (W := 16424) (n := 40) (fun d hd => ?_) (by rw [List.length_map]; omega)).mono (by decide) (by decide)
    obtain ⟨e, he, rfl⟩ := List.mem_map.mp hd
    rw [← dueG_fst] at he
    obtain ⟨u, hu, rfl⟩ := List.mem_map.mp he
    have o := dueG_ok ok (by omega) nl il ig (js := x.jobs) _ (by omega) u hu
    obtain ⟨b1, b2, b3, b4, _⟩ := sm.b _ o.j
    have v1 := o.v1; have i1 := o.in1; have i2 := o.in2; have ab := o.ab; have s1 := o.s1
    have pp := pb _ (jA_mem (js := x.jobs) (k := u.2.1) (by have := o.j; omega))
    have ep := o.p
    refine (ShT.Shw.tup (k := 2) (W := 4105) (n := 4) (fun d hd => ?_) (Nat.le_refl _)).mono (by decide) (by decide)
    simp only [List.mem_cons, List.mem_nil_iff, or_false] at hd
    rcases hd with rfl | rfl | rfl | rfl
    · exact shI (by omega) (by omega) (by decide)
    · exact shI (by omega) (by omega) (by decide)
    · exact shI (by omega) (by omega) (by decide)
    · exact lf_shw (sm.cg o.j (by omega) (by omega)) z1 (by omega) (by omega) o.lf
end M60

namespace M60
open PySem PySem.Spec PyProof.Rows L2 SX Own Gd
open C8 (Cal pe_c pe_gc pe_mk Mak pss_cut)
open M12 (Sn ld net Pos ld_nn cov lb lb_le lb_step lb_nil)
theorem chain_at : ∀ {D : List Dr} {b : Bx} {i : Nat} {d : Dr}, Chain b D → D[i]? = some d → okD ((D.take i).foldl putD b) d
  | [], _, _, _, _, h => by simp at h
  | e :: D, b, 0, d, .cons h _, g => by cases g; exact h
  | e :: D, b, i + 1, d, .cons _ t, g => chain_at (D := D) (b := putD b e) t (by simpa using g)
def SmB (b : Bx) : Prop := BxOk b ∧ ∀ r ∈ b, -1000 ≤ r.1 ∧ r.2 ≤ 1000
theorem put_smb {b : Bx} {d : Dr} (h : SmB b) (g : okD b d) : SmB (putD b d) := by
  obtain ⟨lt, g⟩ := g
  have m := bx_mem (b := b) (p := d.1) lt
  have h1 := h.1 _ m
  have h2 := h.2 _ m
  have key : ∀ x ∈ putD b d, x ∈ b ∨ (x.1 ≤ x.2 ∧ -1000 ≤ x.1 ∧ x.2 ≤ 1000) := fun x hx => by
    unfold putD at hx
    rcases List.mem_or_eq_of_mem_set hx with hx | rfl
    · exact .inl hx
    · refine .inr ?_
      rcases g with ⟨e, g1, g2⟩ | ⟨e, g1, g2⟩
      · rw [if_pos e]; dsimp only; omega
      · rw [if_neg (by omega)]; dsimp only; omega
  exact ⟨fun x hx => (key x hx).elim (h.1 x) fun z => z.1, fun x hx => (key x hx).elim (h.2 x) fun z => z.2⟩
theorem chain_ok : ∀ {D : List Dr} {b : Bx}, Chain b D → SmB b → SmB (D.foldl putD b)
  | [], _, _, h => h
  | e :: D, b, .cons g t, h => chain_ok (D := D) (b := putD b e) t (put_smb h g)
theorem chain_take : ∀ {D : List Dr} {b : Bx} (i : Nat), Chain b D → Chain b (D.take i)
  | [], b, i, _ => by rw [List.take_nil]; exact .nil _
  | e :: D, b, 0, _ => .nil _
  | e :: D, b, i + 1, .cons g t => .cons g (chain_take (D := D) (b := putD b e) i t)
def turn3 (vs : List V) : List V := vs.drop 1 ++ vs.take 1
theorem spDraws_told {C : Addr} {T0 : List (Addr × Str)} {H : Hp} {tv bv : V} {k n : Nat} {x : Wish} {bx : Bx} {Q : VK} {E : XK} (tw : TwB C H tv bv k n x bx) (bo : BxOk bx) (hR : x.isR = false) (tt : LamX.Tabs T0 H) (q : ∀ p H', ToldV k H' (.ref p) x bx → Xt T0 H H' → Q (.ref p) H') : spDraws C T0 [tv, .int (k : Nat), bv] H Q E := by
  refine ⟨tv, bv, k, n, x, bx, rfl, tw, bo, hR, tt, fun nl p lf L fs H2 il lx x2 hp lv => ?_, fun nl p ds fs gs H2 il ig x2 hp dv => ?_⟩
  · obtain ⟨gs, ig⟩ := isLows_ex (bw (wsOf x.jobs bx))
    exact q p H2 ⟨fs, gs, il, ig, .inl ⟨nl, p, lf, L, rfl, hp, lv, lx⟩⟩ x2
  · exact q p H2 ⟨fs, gs, il, ig, .inr ⟨nl, p, ds, rfl, hp, dv⟩⟩ x2
/-- what the law knows of its world -/
structure Wld (C : Addr) (H : Hp) (tv bv : V) (k n : Nat) (x : Wish) (bx : Bx) : Prop where
  tw : TwB C H tv bv k n x bx
  r : x.isR = false
  bo : BxOk bx
  bb : ∀ r ∈ bx, -1000 ≤ r.1 ∧ r.2 ≤ 1000
  n100 : n ≤ 100
  k1 : k ≤ 1000
  jl : ∀ j ∈ x.jobs, j.2.1 ≤ 1000
  z1 : x.size ≤ 1000
theorem Wld.at {C : Addr} {H H' : Hp} {tv bv : V} {k n : Nat} {x : Wish} {bx : Bx} (h : Wld C H tv bv k n x bx) (tw : TwB C H' tv bv k n x bx) : Wld C H' tv bv k n x bx := ⟨tw, h.r, h.bo, h.bb, h.n100, h.k1, h.jl, h.z1⟩
theorem Wld.ok {C : Addr} {H : Hp} {tv bv : V} {k n : Nat} {x : Wish} {bx : Bx} (h : Wld C H tv bv k n x bx) : WsB (wsOf x.jobs bx) x.size := wsb_of (h.tw.ok.wj h.tw.j) h.bo h.tw.bl
theorem Wld.sml {C : Addr} {H : Hp} {tv bv : V} {k n : Nat} {x : Wish} {bx : Bx} (h : Wld C H tv bv k n x bx) : Sml (wsOf x.jobs bx) := by
  have wj := h.tw.ok.wj h.tw.j
  have bl := h.tw.bl
  have n100 := h.n100
  refine ⟨h.ok.few, fun j hj => ?_⟩
  rw [ws_len] at hj
  have m := jA_mem hj
  have pl := wj.ok.pl _ m
  have b1 := h.bb _ (bx_mem (b := bx) (p := (jA x.jobs j).1) (by omega))
  have b2 := h.bo _ (bx_mem (b := bx) (p := (jA x.jobs j).1) (by omega))
  have l1 := wj.ok.len _ m; have l2 := h.jl _ m; have d1 := wj.ok.nd1 _ m; have d2 := wj.ok.ndz _ m; have z1 := h.z1
  unfold lo hi ln nd
  rw [ws_at hj]
  show -1000 ≤ (bxAt bx (jA x.jobs j).1).1 ∧ (bxAt bx (jA x.jobs j).1).1 ≤ 1000 ∧ -1000 ≤ (bxAt bx (jA x.jobs j).1).2 ∧ (bxAt bx (jA x.jobs j).1).2 ≤ 1000 ∧ 1 ≤ (jA x.jobs j).2.1 ∧ (jA x.jobs j).2.1 ≤ 1000 ∧ 1 ≤ (jA x.jobs j).2.2 ∧ (jA x.jobs j).2.2 ≤ 1000
  omega
theorem Wld.two {C : Addr} {K : PySem.W.Frag} {H : Hp} {tv bv v1 v2 : V} {k n : Nat} {x : Wish} {bx : Bx} (h : Wld C H tv bv k n x bx) (a : ToldV k H v1 x bx) (b : ToldV k H v2 x bx) : ∃ d p1 p2, v1 = .ref p1 ∧ v2 = .ref p2 ∧ Dp K H v1 d ∧ Dp K H v2 d ∧ ShT.Shw 60 1000000 d :=
  told_two h.ok.ok h.ok.z1 h.sml h.k1 (fun j hj => by have := (h.tw.ok.wj h.tw.j).ok.pl j hj; have := h.n100; omega) a b
section
variable {P : Program} {w : World} {K : PySem.W.Frag} {mg : Str → Option Value} {base : Heap} {aW aT : Addr} {es : Array DictEntry} {nn : Nat}
abbrev s_Lworld_right : Stmt := topS 117
abbrev n_Lworld_right : List Str := ["heap", "more", "task", "k", "box", "told", "many", "job", "at", "side", "value", "leaf", "low", "high"]
theorem sc_Lworld_right : FnScope n_Lworld_right ["heap", "more"] (defScope s_Lworld_right) := ⟨rfl, rfl, rfl, by decide +kernel, rfl, by decide +kernel, by decide +kernel⟩
def spWoR (T0 : List (Addr × Str)) : Sp := fun vs H Q _ => ∃ (h q : Addr) (more : Bool), vs = [.ref h, .bl more] ∧ HpAt H h q ∧ LamX.Tabs T0 H ∧ ∀ H', Stp T0 h q H H' → Q (.bl true) H'
theorem ok_Lworld_right {f C : Addr} {T0 : List (Addr × Str)} {fd : FuncData} (F : Fun K "_law_world_right" "_law_world_right" s_Lworld_right f fd) (T : Txt K mg w aW aT es nn) (cc : CC K C) (c_Ltask : Cal P w K mg base 10 "_law_task" (spLTask C) []) (c_bench_draws : Cal P w K mg base 11 "bench_draws" (spDraws C T0) []) (c_Ldrawn_right : CalG P w K mg base 7 "_law_drawn_right" (spDrR C)) (c_Lnone_lost : Cal P w K mg base 2 "_law_none_lost" (spNoL C) []) (k_bench_draws_box_task_k : CalK P w K mg base 11 "bench_draws" ["box", "task", "k"] turn3 (spDraws C T0)) : FnG P w K mg base CX0 12 f fd ["heap", "more"] (spWoR T0) := by
  refine fun_okG F sc_Lworld_right (fun vs H Q E h => ?_) (fun cdv A outer s0 H vs Q E hgd hr h => ?_)
  · obtain ⟨h, q, more, rfl, _⟩ := h
    rfl
  · obtain ⟨h, qh, more, rfl, a0, tt, q⟩ := h
    refine ⟨_, (pss_cut (ps_asg (pe_c c_Ltask hr (by decide) (by rfl) (pa_cons (pv 0) (pa_cons pe_str pa_nil))) (pg_tup rfl (pgs_cons (pg_name (i := 2) sc_Lworld_right.nd rfl (.inl rfl)) (pgs_cons (pg_name (i := 3) sc_Lworld_right.nd rfl (.inl rfl)) (pgs_cons (pg_name (i := 4) sc_Lworld_right.nd rfl (.inl rfl)) pgs_nil)))))
      (pss_cut (ps_set (i := 5) sc_Lworld_right.nd rfl (.inl rfl) (pe_c c_bench_draws hr (by decide) (by rfl) (pa_cons (pv 2) (pa_cons (pv 3) (pa_cons (pv 4) pa_nil)))))
      (pss_cut (ps_if (PW.pt (pw_or (pt_not (pt_val (pe_cG hgd c_Ldrawn_right hr (by decide) (by rfl) (pa_cons (pv 2) (pa_cons (pv 3) (pa_cons (pv 4) (pa_cons pe_bl (pa_cons (pv 5) pa_nil)))))))) (pw_or1 (pt_cmpR op_ne (pe_callB (ShT.call_showX hgd hr.units) (by rfl) T.b_repr (by decide +kernel) (pa_cons (pe_kw k_bench_draws_box_task_k hr (by decide) (by rfl) (pk_cons (pv 4) (pk_cons (pv 2) (pk_cons (pv 3) pk_nil)))) pa_nil)) (pe_callB (ShT.call_showX hgd hr.units) (by rfl) T.b_repr (by decide +kernel) (pa_cons (pv 5) pa_nil)) (nomark _))))) (pss_one (ps_ret pe_bl)) pss_nil)
      (pss_cons (ps_set (i := 6) sc_Lworld_right.nd rfl (.inl rfl) pe_int)
      (pss_cut (ps_for PassesOwn.never rfl (pi_tup (pe_ix ix_tup (pe_ix ix_tup (pe_fld (pv 2) (by rfl)) (pv 3) (fun _ _ => rfl)) pe_int (fun _ _ => rfl))) (pg_name (i := 7) sc_Lworld_right.nd rfl (.inl rfl)) (pss_one (ps_set (i := 6) sc_Lworld_right.nd rfl (.inl rfl) (pe_op op_mul (pv 6) (pe_op op_add (pe_op op_sub (pe_ix ix_tup (pe_ix ix_tup (pv 4) (pe_ix ix_tup (pv 7) pe_int (fun _ _ => rfl)) (fun _ _ => rfl)) pe_int (fun _ _ => rfl)) (pe_ix ix_tup (pe_ix ix_tup (pv 4) (pe_ix ix_tup (pv 7) pe_int (fun _ _ => rfl)) (fun _ _ => rfl)) pe_int (fun _ _ => rfl))) pe_int)))))
      (pss_cut (ps_if (PW.pt (pw_and (pt_cmpR op_le (pv 6) pe_int (nomark _)) (pw_and1 (pt_not (pt_val (pe_c c_Lnone_lost hr (by decide) (by rfl) (pa_cons (pv 2) (pa_cons (pv 3) (pa_cons (pv 4) (pa_cons (pv 5) pa_nil)))))))))) (pss_one (ps_ret pe_bl)) pss_nil)
      (pss_cons (ps_if (PW.pt (pw_and (pt_cmpR (op_neD hr.units) (pe_slice sl_tupA (pv 5) po_none (po_some pe_int)) (pe_tup (pa_cons pe_str pa_nil)) (nomark _)) (pw_and1 (pt_truth (pv 1) (by intro _; rfl))))) (pss_cons (ps_for PassesOwn.never rfl (pi_tup (pv 5)) (pg_tup rfl (pgs_cons (pg_name (i := 8) sc_Lworld_right.nd rfl (.inl rfl)) (pgs_cons (pg_name (i := 9) sc_Lworld_right.nd rfl (.inl rfl)) (pgs_cons (pg_name (i := 10) sc_Lworld_right.nd rfl (.inl rfl)) (pgs_cons (pg_name (i := 11) sc_Lworld_right.nd rfl (.inl rfl)) pgs_nil))))) (pss_cons (ps_asg (pe_ix ix_tup (pv 4) (pv 8) (fun _ _ => rfl)) (pg_tup rfl (pgs_cons (pg_name (i := 12) sc_Lworld_right.nd rfl (.inl rfl)) (pgs_cons (pg_name (i := 13) sc_Lworld_right.nd rfl (.inl rfl)) pgs_nil))))
          (pss_one (ps_set (i := 4) sc_Lworld_right.nd rfl (.inl rfl) (pe_op op_catA (pe_op op_catA (pe_slice sl_tupA (pv 4) po_none (po_some (pv 8))) (pe_tup (pa_cons (pe_ix ix_list (pe_lst (pa_cons (pe_tup (pa_cons (pv 10) (pa_cons (pv 13) pa_nil))) (pa_cons (pe_tup (pa_cons (pv 12) (pa_cons (pv 10) pa_nil))) pa_nil))) (pv 9) (fun _ _ => rfl)) pa_nil))) (pe_slice sl_tupA (pv 4) (po_some (pe_op op_add (pv 8) pe_int)) po_none))))))
        (pss_one (ps_ret (pe_cG hgd c_Ldrawn_right hr (by decide) (by rfl) (pa_cons (pv 2) (pa_cons (pv 3) (pa_cons (pv 4) (pa_cons pe_bl (pa_cons (pe_c c_bench_draws hr (by decide) (by rfl) (pa_cons (pv 2) (pa_cons (pv 3) (pa_cons (pv 4) pa_nil)))) pa_nil))))))))) pss_nil)
      (pss_one (ps_ret pe_bl))))))))), ?_⟩
    refine ⟨fun σ H' => ∃ tv bv k n x bx, σ = [some (.ref h), some (.bl more), some tv, some (.int ((k : Nat) : Int)), some bv, none, none, none, none, none, none, none, none, none] ∧ Wld C H' tv bv k n x bx ∧ Stp T0 h qh H H', ?_, fun σ H1 hM => ?_⟩
    · refine ⟨_, rfl, h, qh, false, rfl, a0, fun p tv bv k n x bx ul wl goal H' hp md eR a1 kp => ?_⟩
      refine ⟨p, _, rfl, sq_tup hp, rfl, _, _, rfl, _, _, rfl, _, _, rfl, rfl, tv, bv, k, n, x, bx, rfl, ⟨md.tw, eR, md.bo, fun r hr => ?_, ?_, ?_, fun j hj => ?_, ?_⟩, (Stp.refl a0 tt).kp a1 kp⟩
      · have := md.bd r hr; omega
      · have := md.n6; omega
      · have := md.k2; have := (List.getElem?_eq_some_iff.mp md.tk.hk).1; omega
      · have := md.jl j hj; omega
      · have := md.z4; omega
    obtain ⟨tv, bv, k, n, x, bx, rfl, wd1, st1⟩ := hM
    refine ⟨fun σ H' => ∃ pt, σ = [some (.ref h), some (.bl more), some tv, some (.int ((k : Nat) : Int)), some bv, some (.ref pt), none, none, none, none, none, none, none, none] ∧ ToldV k H' (.ref pt) x bx ∧ Wld C H' tv bv k n x bx ∧ Stp T0 h qh H H', ?_, fun σ H2 hM => ?_⟩
    · refine ⟨_, rfl, _, rfl, _, rfl, tv, bv, k, n, x, bx, rfl, wd1.tw, wd1.bo, wd1.r, st1.t, fun nl p lf L fs H' il lx x2 hp lv => ?_, fun nl p ds fs gs H' il ig x2 hp dv => ?_⟩
      · obtain ⟨gs, ig⟩ := isLows_ex (bw (wsOf x.jobs bx))
        exact ⟨p, rfl, ⟨fs, gs, il, ig, .inl ⟨nl, p, lf, L, rfl, hp, lv, lx⟩⟩, wd1.at (wd1.tw.ext x2.e), st1.xt x2⟩
      · exact ⟨p, rfl, ⟨fs, gs, il, ig, .inr ⟨nl, p, ds, rfl, hp, dv⟩⟩, wd1.at (wd1.tw.ext x2.e), st1.xt x2⟩
    obtain ⟨pt, rfl, td2, wd2, st2⟩ := hM
    refine ⟨fun σ H' => σ = [some (.ref h), some (.bl more), some tv, some (.int ((k : Nat) : Int)), some bv, some (.ref pt), none, none, none, none, none, none, none, none] ∧ ToldV k H' (.ref pt) x bx ∧ Wld C H' tv bv k n x bx ∧ Stp T0 h qh H H', ?_, fun σ H3 hM => ?_⟩
    · refine ⟨_, rfl, _, rfl, _, rfl, _, rfl, tv, bv, .ref pt, k, n, x, bx, rfl, wd2.k1, wd2.tw, wd2.bo, wd2.bb, wd2.n100, td2, fun H3 s3 => ⟨_, rfl, iteF' (by decide) ?_⟩⟩
      have st3 := st2.same s3
      have wd3 := wd2.at (wd2.tw.ext (ext_of s3))
      have td3 := td2.tk (TK.of s3)
      refine ⟨_, rfl, _, rfl, _, rfl, tv, bv, k, n, x, bx, rfl, wd3.tw, wd3.bo, wd3.r, st3.t, fun nl p2 lf L fs H4 il lx x4 hp lv => ?_, fun nl p2 ds fs gs H4 il ig x4 hp dv => ?_⟩
      · obtain ⟨gs, ig⟩ := isLows_ex (bw (wsOf x.jobs bx))
        have td4 : ToldV k H4 (.ref p2) x bx := ⟨fs, gs, il, ig, .inl ⟨nl, p2, lf, L, rfl, hp, lv, lx⟩⟩
        have wd4 := wd3.at (wd3.tw.ext x4.e)
        have st4 := st3.xt x4
        have td3' := td3.tk x4.tk
        obtain ⟨d, p1, p2', e1, e2, dp1, dp2, shw⟩ := wd4.two (K := K) td3' td4
        refine ⟨.ref p2, d, rfl, dp2, shw, .inl ⟨p2, rfl⟩, _, rfl, .ref pt, d, rfl, dp1, shw, .inl ⟨pt, rfl⟩, rfl, _, rfl, iteF' (by simp) ?_⟩
        exact ⟨rfl, td3', wd4, st4⟩
      · have td4 : ToldV k H4 (.ref p2) x bx := ⟨fs, gs, il, ig, .inr ⟨nl, p2, ds, rfl, hp, dv⟩⟩
        have wd4 := wd3.at (wd3.tw.ext x4.e)
        have st4 := st3.xt x4
        have td3' := td3.tk x4.tk
        obtain ⟨d, p1, p2', e1, e2, dp1, dp2, shw⟩ := wd4.two (K := K) td3' td4
        refine ⟨.ref p2, d, rfl, dp2, shw, .inl ⟨p2, rfl⟩, _, rfl, .ref pt, d, rfl, dp1, shw, .inl ⟨pt, rfl⟩, rfl, _, rfl, iteF' (by simp) ?_⟩
        exact ⟨rfl, td3', wd4, st4⟩
    obtain ⟨rfl, td3, wd3, st3⟩ := hM
    obtain ⟨⟨ul, wl, goal, ⟨x', dx, pu, pw, pg, us, wsv, rfl, hx, hpu, uv, hpw, wv, hpg⟩, hk, en⟩, ok, hJ, ⟨pb, bs, rfl, hpb, bvv⟩, bl⟩ := id wd3.tw
    obtain ⟨vw, hwk, wvk⟩ := wv.at2 hk
    obtain ⟨pW, xW, pJ, uJ, rfl, hpW, hx1, hpJ, luJ, atJ⟩ := wvk.jobs hJ
    have wj := ok.wj hJ
    have lws := ws_len x.jobs bx
    refine ⟨fun σ H' => ∃ y7, σ = [some (.ref h), some (.bl more), some (.ref x'), some (.int ((k : Nat) : Int)), some (.ref pb), some (.ref pt), some (.int (prodW (wsOf x.jobs bx) : Nat)), y7, none, none, none, none, none, none] ∧ H3 = H', ?_, fun σ H4 hM => ?_⟩
    · refine ⟨_, rfl, x', C, dx, _, _, rfl, hx, cc.cl, cc.nw, lk_w _ _ _, _, rfl, pw, _, _, _, rfl, rfl, sq_tup hpw, atI_nat hwk, pW, xW, 1, _, rfl, rfl, sq_tup hpW, atI_nat (j := 1) hx1, pJ, rfl, ⟨_, sq_tup hpJ⟩, ?_⟩
      refine for_tup (K := K) (a := pJ) (xs := uJ) (fun i σ H' => ∃ y7, σ = [some (.ref h), some (.bl more), some (.ref x'), some (.int ((k : Nat) : Int)), some (.ref pb), some (.ref pt), some (.int (prodW ((wsOf x.jobs bx).take i) : Nat)), y7, none, none, none, none, none, none] ∧ H3 = H') ⟨none, rfl, rfl⟩ (fun i σ H' _ h => by obtain ⟨_, _, rfl⟩ := h; exact sq_tup hpJ) (fun i xv σ H4 hx4 hI => ?_) (fun σ H4 hI => ?_)
      · obtain ⟨y7, rfl, rfl⟩ := hI
        have li : i < x.jobs.length := by have := (List.getElem?_eq_some_iff.mp hx4).1; omega
        obtain ⟨qj, rj, hqj, hq⟩ := atJ i li
        rw [hqj] at hx4; cases hx4
        have pl := wj.ok.pl _ (jA_mem li)
        obtain ⟨vb, hba, pr, rfl, hpr⟩ := bvv.at2 (List.getElem?_eq_getElem (by omega : (jA x.jobs i).1 < bx.length))
        have ebx : bx[(jA x.jobs i).1]'(by omega) = bxAt bx (jA x.jobs i).1 := by unfold bxAt; rw [List.getD_eq_getElem?_getD, List.getElem?_eq_getElem]; rfl
        rw [ebx] at hpr
        have hd : (wsOf x.jobs bx)[i]? = some (winJ bx (jA x.jobs i)) := by
          unfold wsOf
          rw [List.getElem?_map, List.getElem?_eq_getElem li, jA_at li]; rfl
        have b1 := wd3.bo _ (bx_mem (b := bx) (p := (jA x.jobs i).1) (by omega))
        have b2 := wd3.bb _ (bx_mem (b := bx) (p := (jA x.jobs i).1) (by omega))
        refine ⟨_, rfl, _, rfl, _, rfl, qj, _, 0, _, rfl, rfl, sq_tup hq, atI_nat (j := 0) rfl, pb, bs, _, _, rfl, rfl, sq_tup hpb, atI_nat hba, pr, _, 1, _, rfl, rfl, sq_tup hpr, atI_nat (j := 1) rfl, _, rfl, _, rfl, qj, _, 0, _, rfl, rfl, sq_tup hq, atI_nat (j := 0) rfl, pb, bs, _, _, rfl, rfl, sq_tup hpb, atI_nat hba, pr, _, 0, _, rfl, rfl, sq_tup hpr, atI_nat (j := 0) rfl, _, _, rfl, rfl, _, _, rfl, rfl, _, _, rfl, rfl, .inr ⟨by omega, by omega⟩, ?_⟩
        refine ⟨some (.ref qj), ?_, rfl⟩
        rw [take_one hd, prodW_snoc]
        have e : ((prodW ((wsOf x.jobs bx).take i) * manyW (winJ bx (jA x.jobs i)) : Nat) : Int) = (prodW ((wsOf x.jobs bx).take i) : Int) * ((bxAt bx (jA x.jobs i).1).2 - (bxAt bx (jA x.jobs i).1).1 + 1) := by
          rw [Int.natCast_mul]; unfold manyW winJ; congr 1; dsimp only; omega
        rw [e]; rfl
      · obtain ⟨y7, rfl, rfl⟩ := hI
        rw [luJ, ← lws, List.take_length]
        exact ⟨y7, rfl, rfl⟩
    obtain ⟨y7, rfl, rfl⟩ := hM
    refine ⟨fun σ H' => σ = [some (.ref h), some (.bl more), some (.ref x'), some (.int ((k : Nat) : Int)), some (.ref pb), some (.ref pt), some (.int (prodW (wsOf x.jobs bx) : Nat)), y7, none, none, none, none, none, none] ∧ Same H3 H', ?_, fun σ H4 hM => ?_⟩
    · refine ⟨_, rfl, _, _, rfl, rfl, _, rfl, ite2 (fun c => ?_) (fun c => ?_)⟩
      · have c := of_decide_eq_true c
        refine ⟨_, rfl, _, rfl, _, rfl, _, rfl, .ref x', .ref pb, .ref pt, k, n, x, bx, rfl, wd3.tw, wd3.bo, wd3.bb, wd3.n100, by omega, td3, fun H4 s4 => ⟨_, rfl, iteF' (by decide) ⟨rfl, s4⟩⟩⟩
      · exact iteF' (by decide) ⟨rfl, Same.refl _⟩
    obtain ⟨rfl, s4⟩ := hM
    have st4 := st3.same s4
    have wd4 := wd3.at (wd3.tw.ext (ext_of s4))
    have td4 := td3.tk (TK.of s4)
    obtain ⟨fs, gs, il, ig, ⟨nl, pt', lf, L, ev, hpt, lfv, lx⟩ | ⟨nl, pt', ds, ev, hpt, dv⟩⟩ := td4
    · cases ev
      refine ⟨_, rfl, ?_⟩
      unfold tNoPart
      refine ⟨_, rfl, ?_⟩
      refine sl1 hpt fun q1 H5 s5 hq1 => ?_
      refine ⟨len1, fun t nt => ?_⟩
      have k6 := same_upd (o := .tup [.str "leaf"]) nt
      refine ⟨.tuple [.str "leaf"], .tuple [.str "leaf"], .tup (sq_tup (k6 _ _ hq1)) (.cons (.str _) .nil), .tup (sq_tup upd_same) (.cons (.str _) .nil), leafD_sh, leafD_sh, ?_⟩
      refine ⟨_, rfl, iteF' (by decide +kernel) ?_⟩
      refine iteF' (by decide) ?_
      exact q _ ((st4.same s5).same k6)
    · cases ev
      refine ⟨_, rfl, ?_⟩
      unfold tNoPart
      refine ⟨_, rfl, ?_⟩
      refine sl1 hpt fun q1 H5 s5 hq1 => ?_
      refine ⟨len1, fun t nt => ?_⟩
      have k6 := same_upd (o := .tup [.str "leaf"]) nt
      have s6 := s5.trans k6
      have dv6 := drTk (TK.of s6) dv
      refine ⟨_, .tuple [.str "leaf"], .tup (sq_tup (k6 _ _ hq1)) (dpTake1 (drs_dp dv6)), .tup (sq_tup upd_same) (.cons (.str _) .nil), drD_sh _, leafD_sh, ?_⟩
      refine ⟨_, rfl, iteT' (by rw [drD_ne]; rfl) ?_⟩
      have st6 := st4.same s6
      have hpt6 := s6 _ _ hpt
      have wd6 := wd4.at (wd4.tw.ext (ext_of s6))
      generalize upd H5 t (.tup [.str "leaf"]) = H6 at *
      cases more with
      | false => exact ⟨_, rfl, false, rfl, iteF' (by decide) (q _ st6)⟩
      | true =>
        refine ⟨_, rfl, true, rfl, iteT' rfl ?_⟩
        have s46 := s4.trans s6
        have hpb6 := s46 _ _ hpb
        have bv6 := p2Tk (TK.of s46) bvv
        have chn := (draws_chain wj.ok (by have := wj.z1; omega) wd3.bo bl false nl x.jobs.length (Nat.le_refl _)).1
        have eD := drawsG_fst (z := x.size) il ig x.jobs x.jobs.length
        rw [← eD] at chn
        generalize hDG : drawsG x.jobs (wsOf x.jobs bx) (startG (wsOf x.jobs bx) x.size fs) (startG (bw (wsOf x.jobs bx)) x.size gs) x.jobs.length = DG at *
        have n100 := wd3.n100
        refine ⟨_, rfl, pt, rfl, ⟨_, sq_tup hpt6⟩, for_tup (K := K) (a := pt) (xs := ds) (fun i σ H' => (∃ pq y8 y9 y10 y11 y12 y13, σ = [some (.ref h), some (.bl true), some (.ref x'), some (.int ((k : Nat) : Int)), some (.ref pq), some (.ref pt), some (.int (prodW (wsOf x.jobs bx) : Nat)), y7, y8, y9, y10, y11, y12, y13] ∧ BxV H' (.ref pq) (((DG.map Prod.fst).take i).foldl putD bx)) ∧ Same H6 H') ⟨⟨pb, _, _, _, _, _, _, rfl, pb, bs, rfl, hpb6, bv6⟩, Same.refl _⟩ (fun i σ H' _ h => sq_tup (h.2 _ _ hpt6)) (fun i xv σ H7 hx7 hI => ?_) (fun σ H7 hI => ?_)⟩
        · obtain ⟨⟨pq, y8, y9, y10, y11, y12, y13, rfl, pq', bs7, e0, hpq, bv7⟩, s7⟩ := hI
          cases e0
          obtain ⟨d, hd, pd, lf, rfl, hpd, lvd⟩ := dv6.at_ hx7
          have hd' : (DG.map Prod.fst)[i]? = some d.1 := by rw [List.getElem?_map, hd]; rfl
          have okd := chain_at chn hd'
          have eB : ((DG.map Prod.fst).take (i + 1)).foldl putD bx = putD (((DG.map Prod.fst).take i).foldl putD bx) d.1 := by
            rw [take_one hd', List.foldl_append]; rfl
          have lB : (((DG.map Prod.fst).take i).foldl putD bx).length = n := by rw [fold_len]; exact bl
          rw [eB]
          generalize ((DG.map Prod.fst).take i).foldl putD bx = B at *
          obtain ⟨ltd, sd⟩ := okd
          have lb7 := bv7.len
          obtain ⟨vb, hba, pr, rfl, hpr⟩ := bv7.at2 (List.getElem?_eq_getElem ltd)
          have ebx : B[d.1.1]'ltd = bxAt B d.1.1 := by unfold bxAt; rw [List.getD_eq_getElem?_getD, List.getElem?_eq_getElem]; rfl
          rw [ebx] at hpr
          refine ⟨pd, _, rfl, sq_tup (s7 _ _ hpd), rfl, _, _, rfl, _, _, rfl, _, _, rfl, _, _, rfl, rfl, ?_⟩
          refine ⟨_, rfl, _, rfl, pq, bs7, _, _, rfl, rfl, sq_tup hpq, atI_nat hba, pr, _, rfl, sq_tup hpr, rfl, _, _, rfl, _, _, rfl, rfl, ?_⟩
          refine ⟨_, rfl, _, rfl, _, rfl, ?_⟩
          refine slTo (a := d.1.1) hpq (by omega) fun q1 H8 s8 hq1 => ?_
          refine ⟨_, rfl, _, rfl, len2, fun t1 nt1 => ?_⟩
          have k9 := same_upd (o := .tup [.int d.1.2.2, .int (bxAt B d.1.1).2]) nt1
          have h9 : upd H8 t1 (.tup [.int d.1.2.2, .int (bxAt B d.1.1).2]) t1 = some (.tup [.int d.1.2.2, .int (bxAt B d.1.1).2]) := upd_same
          generalize upd H8 t1 (.tup [.int d.1.2.2, .int (bxAt B d.1.1).2]) = H9 at *
          refine ⟨_, rfl, _, rfl, len2, fun t2 nt2 => ?_⟩
          have k10 := same_upd (o := .tup [.int (bxAt B d.1.1).1, .int d.1.2.2]) nt2
          have h10 : upd H9 t2 (.tup [.int (bxAt B d.1.1).1, .int d.1.2.2]) t2 = some (.tup [.int (bxAt B d.1.1).1, .int d.1.2.2]) := upd_same
          generalize upd H9 t2 (.tup [.int (bxAt B d.1.1).1, .int d.1.2.2]) = H10 at *
          refine ⟨len2, fun t3 nt3 => ?_⟩
          have k11 := same_upd (o := .lst [.ref t1, .ref t2]) nt3
          have h11 : upd H10 t3 (.lst [.ref t1, .ref t2]) t3 = some (.lst [.ref t1, .ref t2]) := upd_same
          generalize upd H10 t3 (.lst [.ref t1, .ref t2]) = H11 at *
          obtain ⟨tp, eI, hTP⟩ : ∃ tp, atI [V.ref t1, .ref t2] d.1.2.1 = some (.ref tp) ∧ P2 H11 (.ref tp) (if d.1.2.1 = 0 then (d.1.2.2, (bxAt B d.1.1).2) else ((bxAt B d.1.1).1, d.1.2.2)) := by
            rcases sd with ⟨e, _, _⟩ | ⟨e, _, _⟩
            · exact ⟨t1, by rw [e]; exact atI_nat (j := 0) rfl, by rw [if_pos e]; exact ⟨t1, rfl, k11 _ _ (k10 _ _ h9)⟩⟩
            · exact ⟨t2, by rw [e]; exact atI_nat (j := 1) rfl, by rw [if_neg (by omega)]; exact ⟨t2, rfl, k11 _ _ h10⟩⟩
          refine ⟨_, rfl, t3, _, _, _, rfl, rfl, sq_lst h11, eI, len1, fun t4 nt4 => ?_⟩
          have k12 := same_upd (o := .tup [.ref tp]) nt4
          have h12 : upd H11 t4 (.tup [.ref tp]) t4 = some (.tup [.ref tp]) := upd_same
          generalize upd H11 t4 (.tup [.ref tp]) = H12 at *
          have s8c := (((k9.trans k10).trans k11).trans k12)
          refine catA (s8c _ _ hq1) h12 (by rw [List.length_take]; show _ + 1 ≤ 1000; omega) fun q2 H13 s13 hq2 => ?_
          have s7d := (s8.trans s8c).trans s13
          refine ⟨_, rfl, _, rfl, _, _, rfl, rfl, _, rfl, ?_⟩
          refine slFrom (a := d.1.1) (s7d _ _ hpq) (by omega) fun q3 H14 s14 hq3 => ?_
          refine catA (s14 _ _ hq2) hq3 (by rw [List.length_append, List.length_take, List.length_drop]; show _ + 1 + _ ≤ 1000; omega) fun q4 H15 s15 hq4 => ?_
          have s7f := (s7d.trans s14).trans s15
          rw [← set_cut (by omega)] at hq4
          refine ⟨⟨q4, _, _, _, _, _, _, rfl, q4, _, rfl, hq4, ?_⟩, s7.trans s7f⟩
          unfold putD
          have hTP15 : P2 H15 (.ref tp) _ := hTP.tk (TK.of (((k12.trans s13).trans s14).trans s15))
          exact All2.set hTP15 d.1.1 (p2Tk (TK.of s7f) bv7)
        · obtain ⟨⟨pq, y8, y9, y10, y11, y12, y13, rfl, bvq⟩, s7⟩ := hI
          have st7 := st6.same s7
          have tw7 := wd6.tw.ext (ext_of s7)
          have lDG : ds.length = (DG.map Prod.fst).length := by rw [dv6.len, List.length_map]
          rw [lDG, List.take_length] at bvq
          have sm7 := chain_ok chn ⟨wd6.bo, wd6.bb⟩
          have lB : ((DG.map Prod.fst).foldl putD bx).length = n := by rw [fold_len]; exact bl
          generalize (DG.map Prod.fst).foldl putD bx = B at *
          have wd7 : Wld C H7 (.ref x') (.ref pq) k n x B := ⟨⟨tw7.tv, tw7.ok, tw7.j, bvq, lB⟩, wd6.r, sm7.1, sm7.2, wd6.n100, wd6.k1, wd6.jl, wd6.z1⟩
          refine ⟨_, rfl, _, rfl, _, rfl, _, rfl, _, rfl, _, rfl, .ref x', .ref pq, k, n, x, B, rfl, wd7.tw, wd7.bo, wd7.r, st7.t, fun nl p2 lf L fs H8 il lx x8 hp lv => ?_, fun nl p2 ds fs gs H8 il ig x8 hp dv => ?_⟩
          · obtain ⟨gs, ig⟩ := isLows_ex (bw (wsOf x.jobs B))
            have wd8 := wd7.at (wd7.tw.ext x8.e)
            exact ⟨.ref x', .ref pq, .ref p2, k, n, x, B, rfl, wd8.k1, wd8.tw, wd8.bo, wd8.bb, wd8.n100, ⟨fs, gs, il, ig, .inl ⟨nl, p2, lf, L, rfl, hp, lv, lx⟩⟩, fun H9 s9 => q _ ((st7.xt x8).same s9)⟩
          · have wd8 := wd7.at (wd7.tw.ext x8.e)
            exact ⟨.ref x', .ref pq, .ref p2, k, n, x, B, rfl, wd8.k1, wd8.tw, wd8.bo, wd8.bb, wd8.n100, ⟨fs, gs, il, ig, .inr ⟨nl, p2, ds, rfl, hp, dv⟩⟩, fun H9 s9 => q _ ((st7.xt x8).same s9)⟩
end
end M60

namespace M60
open PySem PySem.Spec PyProof.Rows L2 SX Own Gd
open C8 (Cal pe_c pe_gc pe_mk Mak pss_cut)
open M12 (Sn ld net Pos ld_nn cov lb lb_le lb_step lb_nil)
theorem seq_kpn {K : PySem.W.Frag} {a h q : Addr} {H H1 H' : Hp} {xs : List V} (x : SqL K H a xs) (s : Same H H1) (k : KpN h q H1 H') (n1 : H h = none) (n2 : H q = none) : SqL K H' a xs := by
  rcases x with (e | ⟨o, e⟩) | e
  · exact .inl (.inl (k _ _ (s _ _ e) (fun z => by rw [z, n1] at e; cases e) (fun z => by rw [z, n2] at e; cases e) (fun ps z => by cases z)))
  · exact .inl (.inr ⟨o, k _ _ (s _ _ e) (fun z => by rw [z, n1] at e; cases e) (fun z => by rw [z, n2] at e; cases e) (fun ps z => by cases z)⟩)
  · exact .inr e
theorem lenA {l : List V} (h : l.length ≤ 1000) : l.length ≤ sizeLine := by rw [sizeLine_eq]; omega
theorem tkMade {C : Addr} {H : Hp} {R : VK} {E : _} {x2 dx2 pu pw2 pg : Addr} {us ws : List V} {ul : List Unk} {wl : List Wish} {goal : List Int} (nx : H x2 = none) (ndx : H dx2 = none) (nxd : x2 ≠ dx2) (hpu : H pu = some (.tup us)) (uv : UVs H us ul) (hpw : H pw2 = some (.tup ws)) (wv : WVs H ws wl) (hpg : H pg = some (tI goal)) (uo : UnkOk ul) (wo : ∀ z ∈ wl, WishOk ul.length z) (lg : goal.length = ul.length) (fin : ∀ H', Same H H' → TaskV C H' (.ref x2) ul wl goal → R .non H') : spTask C [.ref x2, .ref pu, .ref pw2, .ref pg] (upd (upd H dx2 (.own x2)) x2 (.ins C dx2 [])) R E := by
  have y7 := same_upd (o := .own x2) ndx
  have nx7 : upd H dx2 (.own x2) x2 = none := by rw [upd_ne nxd]; exact nx
  have y8 := y7.trans (same_upd (o := .ins C dx2 []) nx7)
  have z8 : upd (upd H dx2 (.own x2)) x2 (.ins C dx2 []) x2 = some (.ins C dx2 []) := upd_same
  generalize upd (upd H dx2 (.own x2)) x2 (.ins C dx2 []) = HX at *
  refine ⟨x2, dx2, pu, pw2, pg, us, ws, ul, wl, goal, rfl, z8, y8 _ _ hpu, uv.tk (TK.of y8), y8 _ _ hpw, wv.same y8, y8 _ _ hpg, uo, wo, lg, fun HY sY => ?_⟩
  have sE : Same H (upd HY x2 (.ins C dx2 [("unknowns", .ref pu), ("wishes", .ref pw2), ("goal", .ref pg)])) := same_at (y8.trans sY) nx
  exact fin _ sE ⟨x2, dx2, pu, pw2, pg, us, ws, rfl, upd_same, sE _ _ hpu, uv.tk (TK.of sE), sE _ _ hpw, wv.same sE, sE _ _ hpg⟩
def bj : List Jb := [(0, 2, 1), (1, 3, 1), (2, 4, 1)]
def u3 : List Unk := [("a", 0, 9), ("b", 0, 9), ("c", 0, 9)]
theorem u3_ok : UnkOk u3 := by
  refine ⟨by decide, by decide, fun u hu => ?_, by decide, fun i u v hu hv => ?_⟩
  · have : nmB u.1 = true := by
      have h : u3.all (fun u => nmB u.1) = true := by decide +kernel
      exact List.all_eq_true.mp h u hu
    exact nm_of this
  · have h : ∀ j : Fin 2, ∀ u v, u3[j.val]? = some u → u3[j.val + 1]? = some v → u.1.cps.toList < v.1.cps.toList := fun j u v hu hv => by
      have : j = 0 ∨ j = 1 := by omega
      rcases this with rfl | rfl
      · cases hu; cases hv; decide +kernel
      · cases hu; cases hv; decide +kernel
    have : i < 2 := by have := (List.getElem?_eq_some_iff.mp hv).1; show i < 2; have l : u3.length = 3 := rfl; omega
    exact h ⟨i, this⟩ u v hu hv
theorem bj_ok : WishOk 3 (.bench bj) := ⟨⟨by decide, by decide, by decide, by decide, by decide⟩, by decide, by decide, by decide, by decide⟩
theorem nl1 : leafB false (wsOf bj [(0, 4), (0, 4), (0, 9)]) 1 = false := by decide +kernel
theorem dr1_ : drawsF false 1 bj [(0, 4), (0, 4), (0, 9)] = [(2, 0, 5)] := by decide +kernel
theorem nl2 : leafB false (wsOf bj [(0, 1), (0, 1), (0, 9)]) 1 = true := by decide +kernel
theorem nl3 : leafB false (wsOf bj [(0, 9), (0, 9), (0, 9)]) 1 = false := by decide +kernel
theorem dr3_ : drawsF false 1 bj [(0, 9), (0, 9), (0, 9)] = [] := by decide +kernel
theorem nl4 : leafB false (wsOf bj [(3, 3), (0, 4), (0, 9)]) 1 = false := by decide +kernel
theorem dr4_ : drawsF false 1 bj [(3, 3), (0, 4), (0, 9)] = [(1, 1, 0), (2, 0, 5)] := by decide +kernel
section
variable {P : Program} {w : World} {K : PySem.W.Frag} {mg : Str → Option Value} {base : Heap} {aW aT : Addr} {es : Array DictEntry} {nn : Nat}
abbrev s_law : Stmt := topS 118
abbrev n_law : List Str := ["script", "heap", "turn", "unknowns", "task", "told", "draw"]
theorem sc_law : FnScope n_law ["script"] (defScope s_law) := ⟨rfl, rfl, rfl, by decide +kernel, rfl, by decide +kernel, by decide +kernel⟩
def spLaw (K : PySem.W.Frag) (T : List (Addr × Str)) : Sp := fun vs H Q _ => ∃ (a : Addr) (ns : List Int), vs = [.ref a] ∧ SqL K H a (ns.map V.int) ∧ ns.length ≤ 63 ∧ LamX.Tabs T H ∧ ∀ H', Q (.bl true) H'
structure LawC (P : Program) (w : World) (K : PySem.W.Frag) (mg : Str → Option Value) (base : Heap) (C : Addr) (T : List (Addr × Str)) : Prop where
  heap : Cal P w K mg base 1 "_law_heap" (spHeap K) []
  world : CalG P w K mg base 12 "_law_world_right" (spWoR T)
  mkT : Mak P w K mg base 8 "Task" C (spTask C) []
  dr : Cal P w K mg base 11 "bench_draws" (spDraws C T) []
  right : CalG P w K mg base 7 "_law_drawn_right" (spDrR C)
theorem ok_law {f C : Addr} {T0 : List (Addr × Str)} {fd : FuncData} (F : Fun K "law" "law" s_law f fd) (T : Txt K mg w aW aT es nn) (cc : CC K C) (LC : LawC P w K mg base C T0) : FnG P w K mg base CX0 13 f fd ["script"] (spLaw K T0) := by
  obtain ⟨c_Lheap, c_Lworld_right, m_Task, c_bench_draws, c_Ldrawn_right⟩ := LC
  refine fun_okG F sc_law (fun vs H Q E h => ?_) (fun cdv A outer s0 H vs Q E hgd hr h => ?_)
  · obtain ⟨a, ns, rfl, _⟩ := h
    rfl
  · obtain ⟨a, ns, rfl, hS, hlen, ht, fin⟩ := h
    refine ⟨_, (pss_cons (ps_set (i := 1) sc_law.nd rfl (.inl rfl) (pe_c c_Lheap hr (by decide) (by rfl) (pa_cons (pv 0) pa_nil)))
      (pss_cut (ps_for PassesOwn.never rfl (pi_range1 (by rfl) T.b_range (pa_cons (pe_op op_add (pe_op op_add pe_int (pe_callTy call_int1 (by rfl) T.b_int (by decide +kernel) (pa_cons (pe_cmpR op_gt (pe_callB call_len_seq (by rfl) T.b_len (by decide +kernel) (pa_cons (pv 0) pa_nil)) pe_int (nomark _)) pa_nil))) (pe_op op_mul pe_int (pe_callTy call_int1 (by rfl) T.b_int (by decide +kernel) (pa_cons (pe_cmpR op_gt (pe_callB call_len_seq (by rfl) T.b_len (by decide +kernel) (pa_cons (pv 0) pa_nil)) pe_int (nomark _)) pa_nil)))) pa_nil)) (pg_name (i := 2) sc_law.nd rfl (.inl rfl)) (pss_one (ps_if (pt_not (pt_val (pe_cG hgd c_Lworld_right hr (by decide) (by rfl) (pa_cons (pv 1) (pa_cons (pe_cmpR op_gt (pe_callB call_len_seq (by rfl) T.b_len (by decide +kernel) (pa_cons (pv 0) pa_nil)) pe_int (nomark _)) pa_nil))))) (pss_one (ps_ret pe_bl)) pss_nil)))
      (pss_cut (ps_set (i := 3) sc_law.nd rfl (.inl rfl) (pe_tup (pa_cons (pe_tup (pa_cons pe_str (pa_cons pe_int (pa_cons pe_int pa_nil)))) (pa_cons (pe_tup (pa_cons pe_str (pa_cons pe_int (pa_cons pe_int pa_nil)))) (pa_cons (pe_tup (pa_cons pe_str (pa_cons pe_int (pa_cons pe_int pa_nil)))) pa_nil)))))
      (pss_cut (ps_set (i := 4) sc_law.nd rfl (.inl rfl) (pe_mk m_Task hr (by decide) (by rfl) (pa_cons (pv 3) (pa_cons (pe_tup (pa_cons (pe_tup (pa_cons pe_str (pa_cons (pe_tup (pa_cons (pe_tup (pa_cons pe_int (pa_cons pe_int pa_nil))) (pa_cons (pe_tup (pa_cons pe_int (pa_cons pe_int pa_nil))) (pa_cons (pe_tup (pa_cons pe_int (pa_cons pe_int pa_nil))) pa_nil)))) pa_nil))) pa_nil)) (pa_cons (pe_tup (pa_cons pe_int (pa_cons pe_int (pa_cons pe_int pa_nil)))) pa_nil)))))
      (pss_cut (ps_set (i := 5) sc_law.nd rfl (.inl rfl) (pe_c c_bench_draws hr (by decide) (by rfl) (pa_cons (pv 4) (pa_cons pe_int (pa_cons (pe_tup (pa_cons (pe_tup (pa_cons pe_int (pa_cons pe_int pa_nil))) (pa_cons (pe_tup (pa_cons pe_int (pa_cons pe_int pa_nil))) (pa_cons (pe_tup (pa_cons pe_int (pa_cons pe_int pa_nil))) pa_nil)))) pa_nil)))))
      (pss_cut (ps_if (PW.pt (pw_or (pt_cmpR (op_neD hr.units) (pe_lc (own := [("draw", 6)]) rfl sc_law.nd (pi_tup (pv 5)) (blkOk_by (N := n_law) (sc := defScope s_law) (by decide +kernel)) (fun _ _ _ _ _ => (pg_name (i := 6) sc_law.nd rfl (.inl rfl))) (fun _ _ _ _ _ => pts_nil) (fun _ _ _ _ _ => (pe_slice (r := rSlA K) sl_tupA (pv 6) po_none (po_some pe_int)))) (pe_lst (pa_cons (pe_tup (pa_cons pe_int (pa_cons pe_int (pa_cons pe_int pa_nil)))) pa_nil)) (nomark _)) (pw_or1 (pt_not (pt_val (pe_cG hgd c_Ldrawn_right hr (by decide) (by rfl) (pa_cons (pv 4) (pa_cons pe_int (pa_cons (pe_tup (pa_cons (pe_tup (pa_cons pe_int (pa_cons pe_int pa_nil))) (pa_cons (pe_tup (pa_cons pe_int (pa_cons pe_int pa_nil))) (pa_cons (pe_tup (pa_cons pe_int (pa_cons pe_int pa_nil))) pa_nil)))) (pa_cons pe_bl (pa_cons (pv 5) pa_nil))))))))))) (pss_one (ps_ret pe_bl)) pss_nil)
      (pss_cut (ps_if (PW.pt (pw_or (pt_cmpR op_ne (pe_ix ix_tup (pe_c c_bench_draws hr (by decide) (by rfl) (pa_cons (pv 4) (pa_cons pe_int (pa_cons (pe_tup (pa_cons (pe_tup (pa_cons pe_int (pa_cons pe_int pa_nil))) (pa_cons (pe_tup (pa_cons pe_int (pa_cons pe_int pa_nil))) (pa_cons (pe_tup (pa_cons pe_int (pa_cons pe_int pa_nil))) pa_nil)))) pa_nil)))) pe_int (fun _ _ => rfl)) pe_str (nomark _)) (pw_or1 (pt_cmpR (op_neD hr.units) (pe_c c_bench_draws hr (by decide) (by rfl) (pa_cons (pv 4) (pa_cons pe_int (pa_cons (pe_tup (pa_cons (pe_tup (pa_cons pe_int (pa_cons pe_int pa_nil))) (pa_cons (pe_tup (pa_cons pe_int (pa_cons pe_int pa_nil))) (pa_cons (pe_tup (pa_cons pe_int (pa_cons pe_int pa_nil))) pa_nil)))) pa_nil)))) (pe_tup pa_nil) (nomark _))))) (pss_one (ps_ret pe_bl)) pss_nil)
      (pss_cut (ps_set (i := 5) sc_law.nd rfl (.inl rfl) (pe_c c_bench_draws hr (by decide) (by rfl) (pa_cons (pv 4) (pa_cons pe_int (pa_cons (pe_tup (pa_cons (pe_tup (pa_cons pe_int (pa_cons pe_int pa_nil))) (pa_cons (pe_tup (pa_cons pe_int (pa_cons pe_int pa_nil))) (pa_cons (pe_tup (pa_cons pe_int (pa_cons pe_int pa_nil))) pa_nil)))) pa_nil)))))
      (pss_one (ps_ret (pe_cmpR (op_eqD hr.units) (pe_lc (own := [("draw", 6)]) rfl sc_law.nd (pi_tup (pv 5)) (blkOk_by (N := n_law) (sc := defScope s_law) (by decide +kernel)) (fun _ _ _ _ _ => (pg_name (i := 6) sc_law.nd rfl (.inl rfl))) (fun _ _ _ _ _ => pts_nil) (fun _ _ _ _ _ => (pe_slice (r := rSlA K) sl_tupA (pv 6) po_none (po_some pe_int)))) (pe_lst (pa_cons (pe_tup (pa_cons pe_int (pa_cons pe_int (pa_cons pe_int pa_nil)))) (pa_cons (pe_tup (pa_cons pe_int (pa_cons pe_int (pa_cons pe_int pa_nil)))) pa_nil))) (nomark _)))))))))))), ?_⟩
    refine ⟨_, rfl, a, ns, rfl, hS, hlen, fun H1 h q s1 nh nq a1 => ?_⟩
    have ht1 : LamX.Tabs T0 H1 := fun p hp => (ht p hp).ext s1
    refine ⟨fun σ H' => ∃ y2, σ = [some (.ref a), some (.ref h), y2, none, none, none, none] ∧ Stp T0 h q H1 H', ?_, fun σ H2 hM => ?_⟩
    · refine ⟨_, rfl, a, _, rfl, .inl (seq_kpn hS s1 (Stp.refl a1 ht1).k nh nq), _, _, rfl, rfl, .inr ⟨_, rfl, _, _, rfl, rfl, _, rfl, a, _, rfl, .inl (seq_kpn hS s1 (Stp.refl a1 ht1).k nh nq), _, _, rfl, rfl, .inr ⟨_, rfl, _, _, rfl, rfl, .inl ⟨by decide, by decide⟩, _, _, rfl, rfl, _, rfl, ?_, ?_, for_range (lo := 0) (fun i σ H' => ∃ y2, σ = [some (.ref a), some (.ref h), y2, none, none, none, none] ∧ Stp T0 h q H1 H') ⟨none, rfl, Stp.refl a1 ht1⟩ (fun i σ H2 _ hI => ?_) (fun σ H2 hI => hI)⟩⟩⟩
      · split <;> split <;> omega
      · split <;> split <;> omega
      · obtain ⟨y2, rfl, S2⟩ := hI
        exact ⟨_, rfl, _, rfl, a, _, rfl, .inl (seq_kpn hS s1 S2.k nh nq), _, _, rfl, rfl, h, q, _, rfl, S2.a, S2.t, fun H3 S3 => ⟨_, rfl, iteF' (by decide) ⟨_, rfl, S2.trans S3⟩⟩⟩
    obtain ⟨y2, rfl, S2⟩ := hM
    refine ⟨fun σ H' => ∃ pu us, σ = [some (.ref a), some (.ref h), y2, some (.ref pu), none, none, none] ∧ Same H2 H' ∧ H' pu = some (.tup us) ∧ UVs H' us u3, ?_, fun σ H3 hM => ?_⟩
    · refine ⟨lenA (by simp), fun u1 nu1 => ⟨lenA (by simp), fun u2 nu2 => ⟨lenA (by simp), fun u3 nu3 => ⟨lenA (by simp), fun u4 nu4 => ?_⟩⟩⟩⟩
      have ku1 := same_upd (o := .tup [.str "a", .int 0, .int 9]) nu1
      have eu1 : upd H2 u1 (.tup [.str "a", .int 0, .int 9]) u1 = some (.tup [.str "a", .int 0, .int 9]) := upd_same
      generalize upd H2 u1 (.tup [.str "a", .int 0, .int 9]) = Hu1 at *
      have ku2 := same_upd (o := .tup [.str "b", .int 0, .int 9]) nu2
      have eu2 : upd Hu1 u2 (.tup [.str "b", .int 0, .int 9]) u2 = some (.tup [.str "b", .int 0, .int 9]) := upd_same
      generalize upd Hu1 u2 (.tup [.str "b", .int 0, .int 9]) = Hu2 at *
      have ku3 := same_upd (o := .tup [.str "c", .int 0, .int 9]) nu3
      have eu3 : upd Hu2 u3 (.tup [.str "c", .int 0, .int 9]) u3 = some (.tup [.str "c", .int 0, .int 9]) := upd_same
      generalize upd Hu2 u3 (.tup [.str "c", .int 0, .int 9]) = Hu3 at *
      have ku4 := same_upd (o := .tup [.ref u1, .ref u2, .ref u3]) nu4
      have eu4 : upd Hu3 u4 (.tup [.ref u1, .ref u2, .ref u3]) u4 = some (.tup [.ref u1, .ref u2, .ref u3]) := upd_same
      generalize upd Hu3 u4 (.tup [.ref u1, .ref u2, .ref u3]) = Hu4 at *
      have fu1 := (ku4 _ _ (ku3 _ _ (ku2 _ _ eu1)))
      have fu2 := (ku4 _ _ (ku3 _ _ eu2))
      have fu3 := (ku4 _ _ eu3)
      have fu4 := eu4
      have Su := (((ku1.trans ku2).trans ku3).trans ku4)
      exact ⟨u4, _, rfl, Su, fu4, .cons ⟨u1, rfl, fu1⟩ (.cons ⟨u2, rfl, fu2⟩ (.cons ⟨u3, rfl, fu3⟩ .nil))⟩
    obtain ⟨pu, us, rfl, s3, hpu, uv⟩ := hM
    have S3 := S2.same s3
    refine ⟨fun σ H' => ∃ (x : Addr), σ = [some (.ref a), some (.ref h), y2, some (.ref pu), some (.ref x), none, none] ∧ Same H3 H' ∧ TaskV C H' (.ref x) u3 [.bench bj] [0, 0, 0], ?_, fun σ H4 hM => ?_⟩
    · refine ⟨_, rfl, lenA (by simp), fun b1 nb1 => ⟨lenA (by simp), fun b2 nb2 => ⟨lenA (by simp), fun b3 nb3 => ⟨lenA (by simp), fun b4 nb4 => ⟨lenA (by simp), fun b5 nb5 => ⟨lenA (by simp), fun b6 nb6 => ⟨lenA (by simp), fun b7 nb7 => fun x dx nx ndx nxd => ?_⟩⟩⟩⟩⟩⟩⟩
      have kb1 := same_upd (o := .tup [.int 0, .int 2]) nb1
      have eb1 : upd H3 b1 (.tup [.int 0, .int 2]) b1 = some (.tup [.int 0, .int 2]) := upd_same
      generalize upd H3 b1 (.tup [.int 0, .int 2]) = Hb1 at *
      have kb2 := same_upd (o := .tup [.int 1, .int 3]) nb2
      have eb2 : upd Hb1 b2 (.tup [.int 1, .int 3]) b2 = some (.tup [.int 1, .int 3]) := upd_same
      generalize upd Hb1 b2 (.tup [.int 1, .int 3]) = Hb2 at *
      have kb3 := same_upd (o := .tup [.int 2, .int 4]) nb3
      have eb3 : upd Hb2 b3 (.tup [.int 2, .int 4]) b3 = some (.tup [.int 2, .int 4]) := upd_same
      generalize upd Hb2 b3 (.tup [.int 2, .int 4]) = Hb3 at *
      have kb4 := same_upd (o := .tup [.ref b1, .ref b2, .ref b3]) nb4
      have eb4 : upd Hb3 b4 (.tup [.ref b1, .ref b2, .ref b3]) b4 = some (.tup [.ref b1, .ref b2, .ref b3]) := upd_same
      generalize upd Hb3 b4 (.tup [.ref b1, .ref b2, .ref b3]) = Hb4 at *
      have kb5 := same_upd (o := .tup [.str "bench", .ref b4]) nb5
      have eb5 : upd Hb4 b5 (.tup [.str "bench", .ref b4]) b5 = some (.tup [.str "bench", .ref b4]) := upd_same
      generalize upd Hb4 b5 (.tup [.str "bench", .ref b4]) = Hb5 at *
      have kb6 := same_upd (o := .tup [.ref b5]) nb6
      have eb6 : upd Hb5 b6 (.tup [.ref b5]) b6 = some (.tup [.ref b5]) := upd_same
      generalize upd Hb5 b6 (.tup [.ref b5]) = Hb6 at *
      have kb7 := same_upd (o := .tup [.int 0, .int 0, .int 0]) nb7
      have eb7 : upd Hb6 b7 (.tup [.int 0, .int 0, .int 0]) b7 = some (.tup [.int 0, .int 0, .int 0]) := upd_same
      generalize upd Hb6 b7 (.tup [.int 0, .int 0, .int 0]) = Hb7 at *
      have fb1 := (kb7 _ _ (kb6 _ _ (kb5 _ _ (kb4 _ _ (kb3 _ _ (kb2 _ _ eb1))))))
      have fb2 := (kb7 _ _ (kb6 _ _ (kb5 _ _ (kb4 _ _ (kb3 _ _ eb2)))))
      have fb3 := (kb7 _ _ (kb6 _ _ (kb5 _ _ (kb4 _ _ eb3))))
      have fb4 := (kb7 _ _ (kb6 _ _ (kb5 _ _ eb4)))
      have fb5 := (kb7 _ _ (kb6 _ _ eb5))
      have fb6 := (kb7 _ _ eb6)
      have fb7 := eb7
      have Sb := ((((((kb1.trans kb2).trans kb3).trans kb4).trans kb5).trans kb6).trans kb7)
      have w1 : WV Hb7 (.ref b5) (.bench bj) := ⟨b5, b4, _, rfl, fb5, fb4, .cons ⟨b1, rfl, fb1⟩ (.cons ⟨b2, rfl, fb2⟩ (.cons ⟨b3, rfl, fb3⟩ .nil))⟩
      refine tkMade (goal := [0, 0, 0]) nx ndx nxd.symm (Sb _ _ hpu) (uv.same Sb) fb6 (.cons w1 .nil) fb7 u3_ok (fun z hz => by rw [List.mem_singleton.mp hz]; exact bj_ok) rfl fun HY sY tv => ⟨rfl, x, rfl, Sb.trans sY, tv⟩
    obtain ⟨x, rfl, s4, tv⟩ := hM
    have S4 := S3.same s4
    have tk4 : TkF C H4 (.ref x) 0 3 (.bench bj) u3 [.bench bj] [0, 0, 0] := ⟨tv, rfl, rfl, u3_ok, fun z hz => by rw [List.mem_singleton.mp hz]; exact bj_ok, rfl, rfl⟩
    refine ⟨fun σ H' => ∃ p, σ = [some (.ref a), some (.ref h), y2, some (.ref pu), some (.ref x), some (.ref p), none] ∧ Xt T0 H4 H' ∧ ToldV 0 H' (.ref p) (.bench bj) [(0, 4), (0, 4), (0, 9)], ?_, fun σ H5 hM => ?_⟩
    · skip
      refine ⟨_, rfl, lenA (by simp), fun p1 np1 => ⟨lenA (by simp), fun p2 np2 => ⟨lenA (by simp), fun p3 np3 => ⟨lenA (by simp), fun p4 np4 => ?_⟩⟩⟩⟩
      have kp1 := same_upd (o := .tup [.int 0, .int 4]) np1
      have ep1 : upd H4 p1 (.tup [.int 0, .int 4]) p1 = some (.tup [.int 0, .int 4]) := upd_same
      generalize upd H4 p1 (.tup [.int 0, .int 4]) = Hp1 at *
      have kp2 := same_upd (o := .tup [.int 0, .int 4]) np2
      have ep2 : upd Hp1 p2 (.tup [.int 0, .int 4]) p2 = some (.tup [.int 0, .int 4]) := upd_same
      generalize upd Hp1 p2 (.tup [.int 0, .int 4]) = Hp2 at *
      have kp3 := same_upd (o := .tup [.int 0, .int 9]) np3
      have ep3 : upd Hp2 p3 (.tup [.int 0, .int 9]) p3 = some (.tup [.int 0, .int 9]) := upd_same
      generalize upd Hp2 p3 (.tup [.int 0, .int 9]) = Hp3 at *
      have kp4 := same_upd (o := .tup [.ref p1, .ref p2, .ref p3]) np4
      have ep4 : upd Hp3 p4 (.tup [.ref p1, .ref p2, .ref p3]) p4 = some (.tup [.ref p1, .ref p2, .ref p3]) := upd_same
      generalize upd Hp3 p4 (.tup [.ref p1, .ref p2, .ref p3]) = Hp4 at *
      have fp1 := (kp4 _ _ (kp3 _ _ (kp2 _ _ ep1)))
      have fp2 := (kp4 _ _ (kp3 _ _ ep2))
      have fp3 := (kp4 _ _ ep3)
      have fp4 := ep4
      have Sp := (((kp1.trans kp2).trans kp3).trans kp4)
      refine ⟨.ref x, .ref p4, 0, 3, .bench bj, [(0, 4), (0, 4), (0, 9)], rfl, (tk4.ext (ext_of Sp)).tw ⟨p4, _, rfl, fp4, (.cons ⟨p1, rfl, fp1⟩ (.cons ⟨p2, rfl, fp2⟩ (.cons ⟨p3, rfl, fp3⟩ .nil)))⟩ rfl, (by unfold BxOk; decide), rfl, (S4.same Sp).t, (fun nl => by have := nl1.symm.trans nl; cases this), fun nl p ds fs gs HA il ig xA hp dv => ?_⟩
      exact ⟨p, rfl, ((Xt.refl S4.t).same Sp).trans xA, ⟨fs, gs, il, ig, .inr ⟨nl, p, ds, rfl, hp, dv⟩⟩⟩
    obtain ⟨p, rfl, x5, td5⟩ := hM
    have tk5 := tk4.ext x5.e
    have S5 := S4.xt x5
    refine ⟨fun σ H' => σ = [some (.ref a), some (.ref h), y2, some (.ref pu), some (.ref x), some (.ref p), none] ∧ Same H5 H', ?_, fun σ H6 hM => ?_⟩
    · have td5' := td5
      obtain ⟨fs, gs, il, ig, ⟨nl, p', lf, L, ev, hp, lfv, lx⟩ | ⟨nl, p', ds, ev, hp, dv⟩⟩ := td5'
      · have := nl1.symm.trans nl; cases this
      cases ev
      have eD : (drawsG bj (wsOf bj [(0, 4), (0, 4), (0, 9)]) (startG (wsOf bj [(0, 4), (0, 4), (0, 9)]) 1 fs) (startG (bw (wsOf bj [(0, 4), (0, 4), (0, 9)])) 1 gs) bj.length).map Prod.fst = [(2, 0, 5)] := (drawsG_fst (z := (1 : Int)) il ig bj bj.length).trans dr1_
      generalize hDG : drawsG bj (wsOf bj [(0, 4), (0, 4), (0, 9)]) (startG (wsOf bj [(0, 4), (0, 4), (0, 9)]) 1 fs) (startG (bw (wsOf bj [(0, 4), (0, 4), (0, 9)])) 1 gs) bj.length = DG at *
      have dv : All2 (DrV ((0 : Nat) : Int) H5) ds DG := by rw [← hDG]; exact dv
      have lds : ds.length = (DG.map Prod.fst).length := by rw [dv.len, List.length_map]
      refine ⟨_, rfl, p, rfl, ⟨_, sq_tup hp⟩, fun D nD => ?_⟩
      refine lc_tup (K := K) (a := p) (xs := ds) (fun m H' => ∃ zs, H' D = some (.lst zs) ∧ All2 (D3V H') zs ((DG.map Prod.fst).take m) ∧ Same H5 H') ⟨[], upd_same, .nil, same_upd nD⟩ (fun m H' _ h => by obtain ⟨_, _, _, sm⟩ := h; exact sq_tup (sm _ _ hp)) ?_ ?_
      · rintro m xv H5 hx ⟨zs, hD, zv, sm⟩
        obtain ⟨d, hd, pd, lf, rfl, hpd, lvd⟩ := dv.at_ hx
        have hd' : (DG.map Prod.fst)[m]? = some d.1 := by rw [List.getElem?_map, hd]; rfl
        have lm := (List.getElem?_eq_some_iff.mp hx).1
        have l10 : (DG.map Prod.fst).length ≤ 10 := by rw [eD]; decide
        have lzs : zs.length = m := by rw [zv.len, List.length_take]; omega
        refine ⟨rfl, _, rfl, ?_⟩
        unfold tNoPart
        refine ⟨_, rfl, ?_⟩
        refine slTo (a := 3) (sm _ _ hpd) (by show 3 < 4; decide) fun pq H6 s6 hpq => ?_
        have hD6 := s6 _ _ hD
        refine ⟨_, hD6, small1000 (by omega), zs ++ [.ref pq], upd_same, ?_, same_at (sm.trans s6) nD⟩
        rw [take_one hd']
        exact d3Tk (TK.put hD6) ((d3Tk (TK.of s6) zv).app ⟨pq, rfl, hpq⟩)
      · rintro HB ⟨zs, hD, zv, sm⟩
        rw [lds, List.take_length, eD] at zv
        refine ⟨lenA (by simp), fun z1 nz1 => ⟨lenA (by simp), fun z2 nz2 => ?_⟩⟩
        have kz1 := same_upd (o := .tup [.int 2, .int 0, .int 5]) nz1
        have ez1 : upd HB z1 (.tup [.int 2, .int 0, .int 5]) z1 = some (.tup [.int 2, .int 0, .int 5]) := upd_same
        generalize upd HB z1 (.tup [.int 2, .int 0, .int 5]) = Hz1 at *
        have kz2 := same_upd (o := .lst [.ref z1]) nz2
        have ez2 : upd Hz1 z2 (.lst [.ref z1]) z2 = some (.lst [.ref z1]) := upd_same
        generalize upd Hz1 z2 (.lst [.ref z1]) = Hz2 at *
        have fz1 := (kz2 _ _ ez1)
        have fz2 := ez2
        have Sz := (kz1.trans kz2)
        refine ⟨.list (([(2, 0, 5)] : List Dr).map d3), .list (([(2, 0, 5)] : List Dr).map d3), .lst (sq_lst (Sz _ _ hD)) (d3_dp (d3Tk (TK.of Sz) zv)), .lst (sq_lst fz2) (.cons (.tup (sq_tup fz1) (.cons (.int _) (.cons (.int _) (.cons (.int _) .nil)))) .nil), by decide +kernel, by decide +kernel, _, rfl, iteF' (by decide +kernel) ?_⟩
        have sW := sm.trans Sz
        generalize Hz2 = HW at *
        refine ⟨_, rfl, lenA (by simp), fun w1 nw1 => ⟨lenA (by simp), fun w2 nw2 => ⟨lenA (by simp), fun w3 nw3 => ⟨lenA (by simp), fun w4 nw4 => ⟨_, rfl, ?_⟩⟩⟩⟩⟩
        have kw1 := same_upd (o := .tup [.int 0, .int 4]) nw1
        have ew1 : upd HW w1 (.tup [.int 0, .int 4]) w1 = some (.tup [.int 0, .int 4]) := upd_same
        generalize upd HW w1 (.tup [.int 0, .int 4]) = Hw1 at *
        have kw2 := same_upd (o := .tup [.int 0, .int 4]) nw2
        have ew2 : upd Hw1 w2 (.tup [.int 0, .int 4]) w2 = some (.tup [.int 0, .int 4]) := upd_same
        generalize upd Hw1 w2 (.tup [.int 0, .int 4]) = Hw2 at *
        have kw3 := same_upd (o := .tup [.int 0, .int 9]) nw3
        have ew3 : upd Hw2 w3 (.tup [.int 0, .int 9]) w3 = some (.tup [.int 0, .int 9]) := upd_same
        generalize upd Hw2 w3 (.tup [.int 0, .int 9]) = Hw3 at *
        have kw4 := same_upd (o := .tup [.ref w1, .ref w2, .ref w3]) nw4
        have ew4 : upd Hw3 w4 (.tup [.ref w1, .ref w2, .ref w3]) w4 = some (.tup [.ref w1, .ref w2, .ref w3]) := upd_same
        generalize upd Hw3 w4 (.tup [.ref w1, .ref w2, .ref w3]) = Hw4 at *
        have fw1 := (kw4 _ _ (kw3 _ _ (kw2 _ _ ew1)))
        have fw2 := (kw4 _ _ (kw3 _ _ ew2))
        have fw3 := (kw4 _ _ ew3)
        have fw4 := ew4
        have Sw := (((kw1.trans kw2).trans kw3).trans kw4)
        have sX := sW.trans Sw
        exact ⟨.ref x, .ref w4, .ref p, 0, 3, .bench bj, [(0, 4), (0, 4), (0, 9)], rfl, by decide, (tk5.ext (ext_of sX)).tw ⟨w4, _, rfl, fw4, (.cons ⟨w1, rfl, fw1⟩ (.cons ⟨w2, rfl, fw2⟩ (.cons ⟨w3, rfl, fw3⟩ .nil)))⟩ rfl, (by unfold BxOk; decide), by decide, by decide, td5.tk (TK.of sX), fun H8 s8 => ⟨_, rfl, iteF' (by decide) ⟨rfl, sX.trans s8⟩⟩⟩
    obtain ⟨rfl, s6⟩ := hM
    have tk6 := tk5.same s6
    have S6 := S5.same s6
    refine ⟨fun σ H' => σ = [some (.ref a), some (.ref h), y2, some (.ref pu), some (.ref x), some (.ref p), none] ∧ Xt T0 H6 H', ?_, fun σ H7 hM => ?_⟩
    · skip
      refine ⟨_, rfl, lenA (by simp), fun p1 np1 => ⟨lenA (by simp), fun p2 np2 => ⟨lenA (by simp), fun p3 np3 => ⟨lenA (by simp), fun p4 np4 => ?_⟩⟩⟩⟩
      have kp1 := same_upd (o := .tup [.int 0, .int 1]) np1
      have ep1 : upd H6 p1 (.tup [.int 0, .int 1]) p1 = some (.tup [.int 0, .int 1]) := upd_same
      generalize upd H6 p1 (.tup [.int 0, .int 1]) = Hp1 at *
      have kp2 := same_upd (o := .tup [.int 0, .int 1]) np2
      have ep2 : upd Hp1 p2 (.tup [.int 0, .int 1]) p2 = some (.tup [.int 0, .int 1]) := upd_same
      generalize upd Hp1 p2 (.tup [.int 0, .int 1]) = Hp2 at *
      have kp3 := same_upd (o := .tup [.int 0, .int 9]) np3
      have ep3 : upd Hp2 p3 (.tup [.int 0, .int 9]) p3 = some (.tup [.int 0, .int 9]) := upd_same
      generalize upd Hp2 p3 (.tup [.int 0, .int 9]) = Hp3 at *
      have kp4 := same_upd (o := .tup [.ref p1, .ref p2, .ref p3]) np4
      have ep4 : upd Hp3 p4 (.tup [.ref p1, .ref p2, .ref p3]) p4 = some (.tup [.ref p1, .ref p2, .ref p3]) := upd_same
      generalize upd Hp3 p4 (.tup [.ref p1, .ref p2, .ref p3]) = Hp4 at *
      have fp1 := (kp4 _ _ (kp3 _ _ (kp2 _ _ ep1)))
      have fp2 := (kp4 _ _ (kp3 _ _ ep2))
      have fp3 := (kp4 _ _ ep3)
      have fp4 := ep4
      have Sp := (((kp1.trans kp2).trans kp3).trans kp4)
      refine ⟨.ref x, .ref p4, 0, 3, .bench bj, [(0, 1), (0, 1), (0, 9)], rfl, (tk6.ext (ext_of Sp)).tw ⟨p4, _, rfl, fp4, (.cons ⟨p1, rfl, fp1⟩ (.cons ⟨p2, rfl, fp2⟩ (.cons ⟨p3, rfl, fp3⟩ .nil)))⟩ rfl, (by unfold BxOk; decide), rfl, (S6.same Sp).t, fun nl p lf L fs HA il lx xA hp lv => ?_, (fun nl => by have := nl2.symm.trans nl; cases this)⟩
      have xA := ((Xt.refl S6.t).same Sp).trans xA
      refine ⟨p, _, 0, _, rfl, rfl, sq_tup hp, atI_nat (j := 0) rfl, rfl, _, rfl, iteF' (by decide +kernel) ?_⟩
      have TA := S6.xt xA
      have tkA := tk6.ext xA.e
      refine ⟨_, rfl, lenA (by simp), fun g1 ng1 => ⟨lenA (by simp), fun g2 ng2 => ⟨lenA (by simp), fun g3 ng3 => ⟨lenA (by simp), fun g4 ng4 => ?_⟩⟩⟩⟩
      have kg1 := same_upd (o := .tup [.int 0, .int 9]) ng1
      have eg1 : upd HA g1 (.tup [.int 0, .int 9]) g1 = some (.tup [.int 0, .int 9]) := upd_same
      generalize upd HA g1 (.tup [.int 0, .int 9]) = Hg1 at *
      have kg2 := same_upd (o := .tup [.int 0, .int 9]) ng2
      have eg2 : upd Hg1 g2 (.tup [.int 0, .int 9]) g2 = some (.tup [.int 0, .int 9]) := upd_same
      generalize upd Hg1 g2 (.tup [.int 0, .int 9]) = Hg2 at *
      have kg3 := same_upd (o := .tup [.int 0, .int 9]) ng3
      have eg3 : upd Hg2 g3 (.tup [.int 0, .int 9]) g3 = some (.tup [.int 0, .int 9]) := upd_same
      generalize upd Hg2 g3 (.tup [.int 0, .int 9]) = Hg3 at *
      have kg4 := same_upd (o := .tup [.ref g1, .ref g2, .ref g3]) ng4
      have eg4 : upd Hg3 g4 (.tup [.ref g1, .ref g2, .ref g3]) g4 = some (.tup [.ref g1, .ref g2, .ref g3]) := upd_same
      generalize upd Hg3 g4 (.tup [.ref g1, .ref g2, .ref g3]) = Hg4 at *
      have fg1 := (kg4 _ _ (kg3 _ _ (kg2 _ _ eg1)))
      have fg2 := (kg4 _ _ (kg3 _ _ eg2))
      have fg3 := (kg4 _ _ eg3)
      have fg4 := eg4
      have Sg := (((kg1.trans kg2).trans kg3).trans kg4)
      refine ⟨.ref x, .ref g4, 0, 3, .bench bj, [(0, 9), (0, 9), (0, 9)], rfl, (tkA.ext (ext_of Sg)).tw ⟨g4, _, rfl, fg4, (.cons ⟨g1, rfl, fg1⟩ (.cons ⟨g2, rfl, fg2⟩ (.cons ⟨g3, rfl, fg3⟩ .nil)))⟩ rfl, (by unfold BxOk; decide), rfl, (TA.same Sg).t, (fun nl => by have := nl3.symm.trans nl; cases this), fun nl p ds fs gs HC il ig xC hp dv => ?_⟩
      have eD : (drawsG bj (wsOf bj [(0, 9), (0, 9), (0, 9)]) (startG (wsOf bj [(0, 9), (0, 9), (0, 9)]) 1 fs) (startG (bw (wsOf bj [(0, 9), (0, 9), (0, 9)])) 1 gs) bj.length).map Prod.fst = [] := (drawsG_fst (z := (1 : Int)) il ig bj bj.length).trans dr3_
      have dv : All2 (DrV ((0 : Nat) : Int) HC) ds [] := by rw [← List.map_eq_nil_iff.mp eD]; exact dv
      cases dv
      refine ⟨Nat.zero_le _, fun e0 ne0 => ?_⟩
      have k9 := same_upd (o := .tup []) ne0
      refine ⟨.tuple [], .tuple [], .tup (sq_tup (k9 _ _ hp)) .nil, .tup (sq_tup upd_same) .nil, by decide +kernel, by decide +kernel, _, rfl, iteF' (by decide +kernel) ⟨rfl, xA.trans (((Xt.refl TA.t).same Sg).trans (xC.same k9))⟩⟩
    obtain ⟨rfl, x7⟩ := hM
    have tk7 := tk6.ext x7.e
    have S7 := S6.xt x7
    refine ⟨fun σ H' => ∃ p, σ = [some (.ref a), some (.ref h), y2, some (.ref pu), some (.ref x), some (.ref p), none] ∧ ToldV 0 H' (.ref p) (.bench bj) [(3, 3), (0, 4), (0, 9)], ?_, fun σ H8 hM => ?_⟩
    · skip
      refine ⟨_, rfl, lenA (by simp), fun p1 np1 => ⟨lenA (by simp), fun p2 np2 => ⟨lenA (by simp), fun p3 np3 => ⟨lenA (by simp), fun p4 np4 => ?_⟩⟩⟩⟩
      have kp1 := same_upd (o := .tup [.int 3, .int 3]) np1
      have ep1 : upd H7 p1 (.tup [.int 3, .int 3]) p1 = some (.tup [.int 3, .int 3]) := upd_same
      generalize upd H7 p1 (.tup [.int 3, .int 3]) = Hp1 at *
      have kp2 := same_upd (o := .tup [.int 0, .int 4]) np2
      have ep2 : upd Hp1 p2 (.tup [.int 0, .int 4]) p2 = some (.tup [.int 0, .int 4]) := upd_same
      generalize upd Hp1 p2 (.tup [.int 0, .int 4]) = Hp2 at *
      have kp3 := same_upd (o := .tup [.int 0, .int 9]) np3
      have ep3 : upd Hp2 p3 (.tup [.int 0, .int 9]) p3 = some (.tup [.int 0, .int 9]) := upd_same
      generalize upd Hp2 p3 (.tup [.int 0, .int 9]) = Hp3 at *
      have kp4 := same_upd (o := .tup [.ref p1, .ref p2, .ref p3]) np4
      have ep4 : upd Hp3 p4 (.tup [.ref p1, .ref p2, .ref p3]) p4 = some (.tup [.ref p1, .ref p2, .ref p3]) := upd_same
      generalize upd Hp3 p4 (.tup [.ref p1, .ref p2, .ref p3]) = Hp4 at *
      have fp1 := (kp4 _ _ (kp3 _ _ (kp2 _ _ ep1)))
      have fp2 := (kp4 _ _ (kp3 _ _ ep2))
      have fp3 := (kp4 _ _ ep3)
      have fp4 := ep4
      have Sp := (((kp1.trans kp2).trans kp3).trans kp4)
      refine ⟨.ref x, .ref p4, 0, 3, .bench bj, [(3, 3), (0, 4), (0, 9)], rfl, (tk7.ext (ext_of Sp)).tw ⟨p4, _, rfl, fp4, (.cons ⟨p1, rfl, fp1⟩ (.cons ⟨p2, rfl, fp2⟩ (.cons ⟨p3, rfl, fp3⟩ .nil)))⟩ rfl, (by unfold BxOk; decide), rfl, (S7.same Sp).t, (fun nl => by have := nl4.symm.trans nl; cases this), fun nl p ds fs gs HA il ig xA hp dv => ?_⟩
      exact ⟨p, rfl, ⟨fs, gs, il, ig, .inr ⟨nl, p, ds, rfl, hp, dv⟩⟩⟩
    obtain ⟨p, rfl, td8⟩ := hM
    · skip
      obtain ⟨fs, gs, il, ig, ⟨nl, p', lf, L, ev, hp, lfv, lx⟩ | ⟨nl, p', ds, ev, hp, dv⟩⟩ := td8
      · have := nl4.symm.trans nl; cases this
      cases ev
      have eD : (drawsG bj (wsOf bj [(3, 3), (0, 4), (0, 9)]) (startG (wsOf bj [(3, 3), (0, 4), (0, 9)]) 1 fs) (startG (bw (wsOf bj [(3, 3), (0, 4), (0, 9)])) 1 gs) bj.length).map Prod.fst = [(1, 1, 0), (2, 0, 5)] := (drawsG_fst (z := (1 : Int)) il ig bj bj.length).trans dr4_
      generalize hDG : drawsG bj (wsOf bj [(3, 3), (0, 4), (0, 9)]) (startG (wsOf bj [(3, 3), (0, 4), (0, 9)]) 1 fs) (startG (bw (wsOf bj [(3, 3), (0, 4), (0, 9)])) 1 gs) bj.length = DG at *
      have dv : All2 (DrV ((0 : Nat) : Int) H8) ds DG := by rw [← hDG]; exact dv
      have lds : ds.length = (DG.map Prod.fst).length := by rw [dv.len, List.length_map]
      refine ⟨_, rfl, p, rfl, ⟨_, sq_tup hp⟩, fun D nD => ?_⟩
      refine lc_tup (K := K) (a := p) (xs := ds) (fun m H' => ∃ zs, H' D = some (.lst zs) ∧ All2 (D3V H') zs ((DG.map Prod.fst).take m) ∧ Same H8 H') ⟨[], upd_same, .nil, same_upd nD⟩ (fun m H' _ h => by obtain ⟨_, _, _, sm⟩ := h; exact sq_tup (sm _ _ hp)) ?_ ?_
      · rintro m xv H5 hx ⟨zs, hD, zv, sm⟩
        obtain ⟨d, hd, pd, lf, rfl, hpd, lvd⟩ := dv.at_ hx
        have hd' : (DG.map Prod.fst)[m]? = some d.1 := by rw [List.getElem?_map, hd]; rfl
        have lm := (List.getElem?_eq_some_iff.mp hx).1
        have l10 : (DG.map Prod.fst).length ≤ 10 := by rw [eD]; decide
        have lzs : zs.length = m := by rw [zv.len, List.length_take]; omega
        refine ⟨rfl, _, rfl, ?_⟩
        unfold tNoPart
        refine ⟨_, rfl, ?_⟩
        refine slTo (a := 3) (sm _ _ hpd) (by show 3 < 4; decide) fun pq H6 s6 hpq => ?_
        have hD6 := s6 _ _ hD
        refine ⟨_, hD6, small1000 (by omega), zs ++ [.ref pq], upd_same, ?_, same_at (sm.trans s6) nD⟩
        rw [take_one hd']
        exact d3Tk (TK.put hD6) ((d3Tk (TK.of s6) zv).app ⟨pq, rfl, hpq⟩)
      · rintro HB ⟨zs, hD, zv, sm⟩
        rw [lds, List.take_length, eD] at zv
        refine ⟨lenA (by simp), fun z1 nz1 => ⟨lenA (by simp), fun z2 nz2 => ⟨lenA (by simp), fun z3 nz3 => ?_⟩⟩⟩
        have kz1 := same_upd (o := .tup [.int 1, .int 1, .int 0]) nz1
        have ez1 : upd HB z1 (.tup [.int 1, .int 1, .int 0]) z1 = some (.tup [.int 1, .int 1, .int 0]) := upd_same
        generalize upd HB z1 (.tup [.int 1, .int 1, .int 0]) = Hz1 at *
        have kz2 := same_upd (o := .tup [.int 2, .int 0, .int 5]) nz2
        have ez2 : upd Hz1 z2 (.tup [.int 2, .int 0, .int 5]) z2 = some (.tup [.int 2, .int 0, .int 5]) := upd_same
        generalize upd Hz1 z2 (.tup [.int 2, .int 0, .int 5]) = Hz2 at *
        have kz3 := same_upd (o := .lst [.ref z1, .ref z2]) nz3
        have ez3 : upd Hz2 z3 (.lst [.ref z1, .ref z2]) z3 = some (.lst [.ref z1, .ref z2]) := upd_same
        generalize upd Hz2 z3 (.lst [.ref z1, .ref z2]) = Hz3 at *
        have fz1 := (kz3 _ _ (kz2 _ _ ez1))
        have fz2 := (kz3 _ _ ez2)
        have fz3 := ez3
        have Sz := ((kz1.trans kz2).trans kz3)
        refine ⟨.list (([(1, 1, 0), (2, 0, 5)] : List Dr).map d3), .list (([(1, 1, 0), (2, 0, 5)] : List Dr).map d3), .lst (sq_lst (Sz _ _ hD)) (d3_dp (d3Tk (TK.of Sz) zv)), .lst (sq_lst fz3) (.cons (.tup (sq_tup fz1) (.cons (.int _) (.cons (.int _) (.cons (.int _) .nil)))) (.cons (.tup (sq_tup fz2) (.cons (.int _) (.cons (.int _) (.cons (.int _) .nil)))) .nil)), by decide +kernel, by decide +kernel, ?_⟩
        exact fin _
end
end M60

namespace M60
open PySem PySem.W PySem.Calls PyProof.Rows Own Gd
open L2 (FnScope defArgs defBody defScope FunD Fun Binds OexC XfC xfB xfB_ok FnOk CX0 Sp Cls NoAttr Mk)
section
variable {P : Program} {w : World} {K : PySem.W.Frag} {mg : PySem.Str → Option Value} {base : Heap} {x p1 p2 p3 : PySem.Str} {st : Stmt} {f : Addr} {fd : FuncData} {k : Nat} {sp : Sp} {CX : L2.CXT}
theorem three_of {ws : List Value} (h : ws.length = 3) : ∃ a b c, ws = [a, b, c] := by
  match ws, h with
  | [a, b, c], _ => exact ⟨a, b, c, rfl⟩
theorem mkT3 (F : Fun K x x st f fd) (ok : FnOk P w K mg base CX k f fd [p1, p2, p3] sp) (hC : CX = CX0 ∨ CX = L2.CX P w) (g : mg x = some (.ref f))
    (h : ∀ (kV doc pm : Value) (an : Option Addr) (cdv ct : Value) (a b c : Value), bindArgs (PySem.W.fnOf x x (defArgs st) (defBody st) (defScope st) .none kV doc pm an cdv ct) ⟨[], [p3, p1, p2].zip [c, a, b]⟩ = pure ([p1, p2, p3].zip [a, b, c])) : CalK P w K mg base k x [p3, p1, p2] turn3 sp := by
  have kp := F.kp
  obtain ⟨oc, od, kV, doc, pm, an, cdv, ct, osl, rfl, lk, hc⟩ := F.ex
  refine ⟨⟨f, _, [p1, p2, p3], fun vs => vs.drop 1 ++ vs.take 1, CX, hC, ok, g, kp, fun s ws hl => ?_, fun zs ws r => ?_⟩⟩
  · have l3 : ws.length = 3 := by
      have hl : (ws.drop 1 ++ ws.take 1).length = 3 := hl
      rw [List.length_append, List.length_drop, List.length_take] at hl
      omega
    obtain ⟨c, a, b, rfl⟩ := three_of l3
    exact .of_eq (h kV doc pm an cdv ct a b c)
  · cases r with
    | nil => exact .nil
    | cons h t => exact L2.Vals.append t (.cons h .nil)
theorem mkK3i (F : Fun K x x st f fd) (ok : FnOk P w K mg base CX k f fd [p1, p2, p3] sp) (hC : CX = CX0 ∨ CX = L2.CX P w) (g : mg x = some (.ref f))
    (h : ∀ (kV doc pm : Value) (an : Option Addr) (cdv ct : Value) (a b c : Value), bindArgs (PySem.W.fnOf x x (defArgs st) (defBody st) (defScope st) .none kV doc pm an cdv ct) ⟨[], [p1, p2, p3].zip [a, b, c]⟩ = pure ([p1, p2, p3].zip [a, b, c])) : CalK P w K mg base k x [p1, p2, p3] id sp := by
  have kp := F.kp
  obtain ⟨oc, od, kV, doc, pm, an, cdv, ct, osl, rfl, lk, hc⟩ := F.ex
  refine ⟨⟨f, _, [p1, p2, p3], id, CX, hC, ok, g, kp, fun s ws hl => ?_, fun _ _ r => r⟩⟩
  obtain ⟨a, b, c, rfl⟩ := three_of hl
  exact .of_eq (h kV doc pm an cdv ct a b c)
end
def d_is_whole : He.DefD := ⟨("is_whole", none), "is_whole", "is_whole", defArgs s_is_whole, defBody s_is_whole, defScope s_is_whole, [], []⟩
def d_is_places : He.DefD := ⟨("is_places", none), "is_places", "is_places", defArgs s_is_places, defBody s_is_places, defScope s_is_places, [], []⟩
def d_is_integers : He.DefD := ⟨("is_integers", none), "is_integers", "is_integers", defArgs s_is_integers, defBody s_is_integers, defScope s_is_integers, [], []⟩
def d_is_lot_of_places : He.DefD := ⟨("is_lot_of_places", none), "is_lot_of_places", "is_lot_of_places", defArgs s_is_lot_of_places, defBody s_is_lot_of_places, defScope s_is_lot_of_places, [], []⟩
def d_is_unlike : He.DefD := ⟨("_is_unlike", none), "_is_unlike", "_is_unlike", defArgs s_is_unlike, defBody s_is_unlike, defScope s_is_unlike, [], []⟩
def d_is_jobs : He.DefD := ⟨("_is_jobs", none), "_is_jobs", "_is_jobs", defArgs s_is_jobs, defBody s_is_jobs, defScope s_is_jobs, [], []⟩
def d_is_bench : He.DefD := ⟨("_is_bench", none), "_is_bench", "_is_bench", defArgs s_is_bench, defBody s_is_bench, defScope s_is_bench, [], []⟩
def d_is_room : He.DefD := ⟨("_is_room", none), "_is_room", "_is_room", defArgs s_is_room, defBody s_is_room, defScope s_is_room, [], []⟩
def d_is_wish : He.DefD := ⟨("is_wish", none), "is_wish", "is_wish", defArgs s_is_wish, defBody s_is_wish, defScope s_is_wish, [], []⟩
def d_is_name : He.DefD := ⟨("is_name", none), "is_name", "is_name", defArgs s_is_name, defBody s_is_name, defScope s_is_name, [], []⟩
def d_is_pair : He.DefD := ⟨("is_pair", none), "is_pair", "is_pair", defArgs s_is_pair, defBody s_is_pair, defScope s_is_pair, [], []⟩
def d_is_unknown : He.DefD := ⟨("_is_unknown", none), "_is_unknown", "_is_unknown", defArgs s_is_unknown, defBody s_is_unknown, defScope s_is_unknown, [], []⟩
def d_check_unknowns : He.DefD := ⟨("_check_unknowns", none), "_check_unknowns", "_check_unknowns", defArgs s_check_unknowns, defBody s_check_unknowns, defScope s_check_unknowns, [], []⟩
def d_check_wishes : He.DefD := ⟨("_check_wishes", none), "_check_wishes", "_check_wishes", defArgs s_check_wishes, defBody s_check_wishes, defScope s_check_wishes, [], []⟩
def d_check_goal : He.DefD := ⟨("_check_goal", none), "_check_goal", "_check_goal", defArgs s_check_goal, defBody s_check_goal, defScope s_check_goal, [], []⟩
def d_size_of : He.DefD := ⟨("size_of", none), "size_of", "size_of", defArgs s_size_of, defBody s_size_of, defScope s_size_of, [], []⟩
def d_jobs_of : He.DefD := ⟨("jobs_of", none), "jobs_of", "jobs_of", defArgs s_jobs_of, defBody s_jobs_of, defScope s_jobs_of, [], []⟩
def d_job_windows : He.DefD := ⟨("job_windows", none), "job_windows", "job_windows", defArgs s_job_windows, defBody s_job_windows, defScope s_job_windows, [], []⟩
def d_end_of : He.DefD := ⟨("end_of", none), "end_of", "end_of", defArgs s_end_of, defBody s_end_of, defScope s_end_of, [], []⟩
def d_work_of : He.DefD := ⟨("work_of", none), "work_of", "work_of", defArgs s_work_of, defBody s_work_of, defScope s_work_of, [], []⟩
def d_backwards : He.DefD := ⟨("backwards", none), "backwards", "backwards", defArgs s_backwards, defBody s_backwards, defScope s_backwards, [], []⟩
def d_leaf_backwards : He.DefD := ⟨("leaf_backwards", none), "leaf_backwards", "leaf_backwards", defArgs s_leaf_backwards, defBody s_leaf_backwards, defScope s_leaf_backwards, [], []⟩
def d_later_start : He.DefD := ⟨("later_start", none), "later_start", "later_start", defArgs s_later_start, defBody s_later_start, defScope s_later_start, [], []⟩
def d_late_leaf : He.DefD := ⟨("late_leaf", none), "late_leaf", "late_leaf", defArgs s_late_leaf, defBody s_late_leaf, defScope s_late_leaf, [], []⟩
def d_jobs_from : He.DefD := ⟨("jobs_from", none), "jobs_from", "jobs_from", defArgs s_jobs_from, defBody s_jobs_from, defScope s_jobs_from, [], []⟩
def d_jobs_within : He.DefD := ⟨("jobs_within", none), "jobs_within", "jobs_within", defArgs s_jobs_within, defBody s_jobs_within, defScope s_jobs_within, [], []⟩
def d_load_leaf : He.DefD := ⟨("load_leaf", none), "load_leaf", "load_leaf", defArgs s_load_leaf, defBody s_load_leaf, defScope s_load_leaf, [], []⟩
def d_late_starts : He.DefD := ⟨("late_starts", none), "late_starts", "late_starts", defArgs s_late_starts, defBody s_late_starts, defScope s_late_starts, [], []⟩
def d_load_start : He.DefD := ⟨("_load_start", none), "_load_start", "_load_start", defArgs s_load_start, defBody s_load_start, defScope s_load_start, [], []⟩
def d_load_starts : He.DefD := ⟨("load_starts", none), "load_starts", "load_starts", defArgs s_load_starts, defBody s_load_starts, defScope s_load_starts, [], []⟩
def d_bench_leaf : He.DefD := ⟨("bench_leaf", none), "bench_leaf", "bench_leaf", defArgs s_bench_leaf, defBody s_bench_leaf, defScope s_bench_leaf, [], []⟩
def d_bench_starts : He.DefD := ⟨("bench_starts", none), "bench_starts", "bench_starts", defArgs s_bench_starts, defBody s_bench_starts, defScope s_bench_starts, [], []⟩
def d_draws_of_starts : He.DefD := ⟨("draws_of_starts", none), "draws_of_starts", "draws_of_starts", defArgs s_draws_of_starts, defBody s_draws_of_starts, defScope s_draws_of_starts, [], []⟩
def d_bench_draws : He.DefD := ⟨("bench_draws", none), "bench_draws", "bench_draws", defArgs s_bench_draws, defBody s_bench_draws, defScope s_bench_draws, [], []⟩
def d_Ldraw : He.DefD := ⟨("_law_draw", none), "_law_draw", "_law_draw", defArgs s_Ldraw, defBody s_Ldraw, defScope s_Ldraw, [], []⟩
def d_Lheap : He.DefD := ⟨("_law_heap", none), "_law_heap", "_law_heap", defArgs s_Lheap, defBody s_Lheap, defScope s_Lheap, [], []⟩
def d_Lpick : He.DefD := ⟨("_law_pick", none), "_law_pick", "_law_pick", defArgs s_Lpick, defBody s_Lpick, defScope s_Lpick, [], []⟩
def d_Ltask : He.DefD := ⟨("_law_task", none), "_law_task", "_law_task", defArgs s_Ltask, defBody s_Ltask, defScope s_Ltask, [], []⟩
def d_Lwithin : He.DefD := ⟨("_law_within", none), "_law_within", "_law_within", defArgs s_Lwithin, defBody s_Lwithin, defScope s_Lwithin, [], []⟩
def d_Lwork : He.DefD := ⟨("_law_work", none), "_law_work", "_law_work", defArgs s_Lwork, defBody s_Lwork, defScope s_Lwork, [], []⟩
def d_Llate : He.DefD := ⟨("_law_late", none), "_law_late", "_law_late", defArgs s_Llate, defBody s_Llate, defScope s_Llate, [], []⟩
def d_Lsure : He.DefD := ⟨("_law_sure", none), "_law_sure", "_law_sure", defArgs s_Lsure, defBody s_Lsure, defScope s_Lsure, [], []⟩
def d_Lshown : He.DefD := ⟨("_law_shown", none), "_law_shown", "_law_shown", defArgs s_Lshown, defBody s_Lshown, defScope s_Lshown, [], []⟩
def d_Lchanged : He.DefD := ⟨("_law_changed", none), "_law_changed", "_law_changed", defArgs s_Lchanged, defBody s_Lchanged, defScope s_Lchanged, [], []⟩
def d_Lis_lot : He.DefD := ⟨("_law_is_lot", none), "_law_is_lot", "_law_is_lot", defArgs s_Lis_lot, defBody s_Lis_lot, defScope s_Lis_lot, [], []⟩
def d_Lfarthest : He.DefD := ⟨("_law_farthest", none), "_law_farthest", "_law_farthest", defArgs s_Lfarthest, defBody s_Lfarthest, defScope s_Lfarthest, [], []⟩
def d_Lwindows : He.DefD := ⟨("_law_windows", none), "_law_windows", "_law_windows", defArgs s_Lwindows, defBody s_Lwindows, defScope s_Lwindows, [], []⟩
def d_load_holds : He.DefD := ⟨("_load_holds", none), "_load_holds", "_load_holds", defArgs s_load_holds, defBody s_load_holds, defScope s_load_holds, [], []⟩
def d_late_holds : He.DefD := ⟨("_late_holds", none), "_late_holds", "_late_holds", defArgs s_late_holds, defBody s_late_holds, defScope s_late_holds, [], []⟩
def d_leaf_holds : He.DefD := ⟨("leaf_holds", none), "leaf_holds", "leaf_holds", defArgs s_leaf_holds, defBody s_leaf_holds, defScope s_leaf_holds, [], []⟩
def d_Lleaf_right : He.DefD := ⟨("_law_leaf_right", none), "_law_leaf_right", "_law_leaf_right", defArgs s_Lleaf_right, defBody s_Lleaf_right, defScope s_Lleaf_right, [], []⟩
def d_Ldrawn_right : He.DefD := ⟨("_law_drawn_right", none), "_law_drawn_right", "_law_drawn_right", defArgs s_Ldrawn_right, defBody s_Ldrawn_right, defScope s_Ldrawn_right, [], []⟩
def d_Lkeeps : He.DefD := ⟨("_law_keeps", none), "_law_keeps", "_law_keeps", defArgs s_Lkeeps, defBody s_Lkeeps, defScope s_Lkeeps, [], []⟩
def d_Lall_starts : He.DefD := ⟨("_law_all_starts", none), "_law_all_starts", "_law_all_starts", defArgs s_Lall_starts, defBody s_Lall_starts, defScope s_Lall_starts, [], []⟩
def d_Lnone_lost : He.DefD := ⟨("_law_none_lost", none), "_law_none_lost", "_law_none_lost", defArgs s_Lnone_lost, defBody s_Lnone_lost, defScope s_Lnone_lost, [], []⟩
def d_Lworld_right : He.DefD := ⟨("_law_world_right", none), "_law_world_right", "_law_world_right", defArgs s_Lworld_right, defBody s_Lworld_right, defScope s_Lworld_right, [], []⟩
def d_law : He.DefD := ⟨("law", none), "law", "law", defArgs s_law, defBody s_law, defScope s_law, [], []⟩
def d_Ti : He.DefD := ⟨("Task", some "__init__"), "__init__", "Task.__init__", defArgs s_Task_init, defBody s_Task_init, defScope s_Task_init, [], []⟩
def fnL0 : List He.DefD := [d_is_whole, d_is_places, d_is_integers, d_is_lot_of_places, d_is_unlike, d_is_jobs, d_is_bench, d_is_room, d_is_wish, d_is_name]
def fnL1 : List He.DefD := [d_is_pair, d_is_unknown, d_check_unknowns, d_check_wishes, d_check_goal, d_size_of, d_jobs_of, d_job_windows, d_end_of, d_work_of]
def fnL2 : List He.DefD := [d_backwards, d_leaf_backwards, d_later_start, d_late_leaf, d_jobs_from, d_jobs_within, d_load_leaf, d_late_starts, d_load_start, d_load_starts]
def fnL3 : List He.DefD := [d_bench_leaf, d_bench_starts, d_draws_of_starts, d_bench_draws, d_Ldraw, d_Lheap, d_Lpick, d_Ltask, d_Lwithin, d_Lwork]
def fnL4 : List He.DefD := [d_Llate, d_Lsure, d_Lshown, d_Lchanged, d_Lis_lot, d_Lfarthest, d_Lwindows, d_load_holds, d_late_holds, d_leaf_holds]
def fnL5 : List He.DefD := [d_Lleaf_right, d_Ldrawn_right, d_Lkeeps, d_Lall_starts, d_Lnone_lost, d_Lworld_right, d_law, d_Ti]
def fnL : List He.DefD := fnL0 ++ fnL1 ++ fnL2 ++ fnL3 ++ fnL4 ++ fnL5
def faL0 : List He.Fa := [.glo "is_whole", .glo "is_places", .glo "is_integers", .glo "is_lot_of_places", .glo "_is_unlike", .glo "_is_jobs", .glo "_is_bench", .glo "_is_room", .glo "is_wish", .glo "is_name"]
def faL1 : List He.Fa := [.glo "is_pair", .glo "_is_unknown", .glo "_check_unknowns", .glo "_check_wishes", .glo "_check_goal", .glo "size_of", .glo "jobs_of", .glo "job_windows", .glo "end_of", .glo "work_of"]
def faL2 : List He.Fa := [.glo "backwards", .glo "leaf_backwards", .glo "later_start", .glo "late_leaf", .glo "jobs_from", .glo "jobs_within", .glo "load_leaf", .glo "late_starts", .glo "_load_start", .glo "load_starts"]
def faL3 : List He.Fa := [.glo "bench_leaf", .glo "bench_starts", .glo "draws_of_starts", .glo "bench_draws", .glo "_law_draw", .glo "_law_heap", .glo "_law_pick", .glo "_law_task", .glo "_law_within", .glo "_law_work"]
def faL4 : List He.Fa := [.glo "_law_late", .glo "_law_sure", .glo "_law_shown", .glo "_law_changed", .glo "_law_is_lot", .glo "_law_farthest", .glo "_law_windows", .glo "_load_holds", .glo "_late_holds", .glo "leaf_holds"]
def faL5 : List He.Fa := [.glo "_law_leaf_right", .glo "_law_drawn_right", .glo "_law_keeps", .glo "_law_all_starts", .glo "_law_none_lost", .glo "_law_world_right", .glo "law", .glo "Task", .glo "WORDS", .glo "WISH_TESTS"]
def faL6 : List He.Fa := [.glo "LEAF_TESTS", .glo "LEAF_ITEMS", .glo "LEAF_KINDS", .int "LONGEST_NAME" 6, .str "LETTERS" "abcdefghijklmnopqrstuvwxyz", .cls "Task", .noat "Task" "unknowns", .noat "Task" "wishes", .noat "Task" "goal", .mkr "Task"]
def faL7 : List He.Fa := [.free "len", .free "range", .free "int", .free "abs", .free "all", .free "sum", .free "repr", .free "tuple", .free "bool", .free "str"]
def faL8 : List He.Fa := [.free "list", .free "set", .free "any", .free "zip", .free "enumerate", .free "isinstance", .free "min", .free "max", .free "sorted"]
def faL : List He.Fa := faL0 ++ faL1 ++ faL2 ++ faL3 ++ faL4 ++ faL5 ++ faL6 ++ faL7 ++ faL8
abbrev pD : He.Defn := ("jobs_from", none)
def tfL : List He.Defn := [pD]
def tsL : List He.Tab := [(fun K => He.ga K "WISH_TESTS", ["sum", "unlike", "table", "either", "bench", "room", "round"]), (fun K => He.ga K "LEAF_TESTS", ["crowd", "out", "shut", "late", "load", "full", "ring", "broken"]), (fun K => He.ga K "LEAF_ITEMS", ["crowd", "out", "shut", "late", "load", "full", "ring", "broken"]), (fun K => He.ga K "LEAF_KINDS", ["crowd", "out", "shut", "late", "load", "full", "ring", "broken"])]
/-- a tuple of the top -/
def tupB (K : Frag) (a : Addr) (xs : List L2.V) : Bool := match K.lookup a with
  | some ⟨.type t, _, .seq its _, _⟩ => decide (t = "tuple") && (decide (its.size ≤ sizeLine) && He.relAll xs its.toList)
  | _ => false
theorem tupB_ok {K : Frag} {a : Addr} {xs : List L2.V} (h : tupB K a xs = true) (H : L2.Hp) : L2.SqT K H a xs := by
  unfold tupB at h
  cases q : K.lookup a with
  | none => rw [q] at h; cases h
  | some o =>
    obtain ⟨oc, od, dt, osl⟩ := o
    rw [q] at h
    cases oc with
    | type t =>
      cases dt with
      | seq its n =>
        obtain ⟨h1, h2⟩ := He.ba h
        obtain ⟨h3, h4⟩ := He.ba h2
        obtain rfl := of_decide_eq_true h1
        exact .inr ⟨_, its, n, q, rfl, rfl, of_decide_eq_true h3, He.relAll_ok h4⟩
      | _ => cases h
    | _ => cases dt <;> cases h
def exC (K : Frag) : Bool := tupB K (He.ga K "WORDS") (wordsL.map L2.V.str) && (He.valsB K (He.ga K "WISH_TESTS") [("unlike", .glo "_is_unlike"), ("bench", .glo "_is_bench"), ("room", .glo "_is_room")] && (decide (He.ga K "_is_unlike" ≠ He.ga K "_is_bench") && (decide (He.ga K "_is_unlike" ≠ He.ga K "_is_room") && decide (He.ga K "_is_bench" ≠ He.ga K "_is_room"))))
def kndB (K : Frag) (x : PySem.Str) : Bool := match PySem.W.nsIn K (He.ga K "LEAF_KINDS") x with
  | some (some (.ref q)) => tupB K q [.str "bench", .str "room"]
  | _ => false
theorem kndB_ok {K : Frag} {x : PySem.Str} (h : kndB K x = true) : ∃ q, PySem.W.nsIn K (He.ga K "LEAF_KINDS") x = some (some (.ref q)) ∧ ∀ H, L2.SqT K H q ([.str "bench", .str "room"] : List L2.V) := by
  unfold kndB at h
  split at h
  · rename_i q e
    exact ⟨q, e, fun H => tupB_ok h H⟩
  · cases h
def exB (K : Frag) : Bool := kndB K "late" && (kndB K "load" && (He.valsB K (He.ga K "LEAF_TESTS") [("late", .glo "_late_holds"), ("load", .glo "_load_holds")] && (He.valsB K (He.ga K "LEAF_ITEMS") [("late", .int 4), ("load", .int 5)] && exC K)))
open C8 (Cal Mak)
section
variable {P : Program} {w : World} {K : Frag} {mg : PySem.Str → Option Value} {base : Heap} {f : Addr} {fd : FuncData} {ps : List PySem.Str} {k : Nat} {C : Addr} {CX : L2.CXT}
theorem late_T (F : FnOk P w K mg base CX k f fd ps (spLtH C)) : FnOk P w K mg base CX k f fd ps (spLfT C "late") := F.imp fun vs H Q E h => by
  obtain ⟨v, b, kk, n, x, bx, px, L, rfl, e, tw, bo, lv, lok, q⟩ := h
  cases L with
  | late i o => obtain ⟨p, e, hp⟩ := lv; cases e; exact ⟨v, b, kk, n, x, bx, px, i, o, rfl, tw, bo, hp, lok, q⟩
  | load J f l => exact absurd e (by show ¬ ("load" : PySem.Str) = "late"; decide +kernel)
  | full J m => exact absurd e (by show ¬ ("full" : PySem.Str) = "late"; decide +kernel)
theorem load_T (F : FnOk P w K mg base CX k f fd ps (spLdH C)) : FnOk P w K mg base CX k f fd ps (spLfT C "load") := F.imp fun vs H Q E h => by
  obtain ⟨v, b, kk, n, x, bx, px, L, rfl, e, tw, bo, lv, lok, q⟩ := h
  cases L with
  | load J f l => obtain ⟨p, j, e, hp, hj⟩ := lv; cases e; exact ⟨v, b, kk, n, x, bx, px, j, J, f, l, rfl, tw, bo, hp, hj, lok, q⟩
  | late i o => exact absurd e (by show ¬ ("late" : PySem.Str) = "load"; decide +kernel)
  | full J m => exact absurd e (by show ¬ ("full" : PySem.Str) = "load"; decide +kernel)
end
section
variable {P : Program} {w : World} {K : Frag} {mg : PySem.Str → Option Value} {base : Heap} {x : PySem.Str} {j k : Nat} {sp : Sp} {ks : List PySem.Str} {gV : List L2.V → List L2.V}
theorem calM (c : Cal P w K mg base j x sp []) (h : j ≤ k) : Cal P w K mg base k x sp [] := by
  obtain ⟨f, fd, ps, ds, F, r⟩ := c
  exact ⟨f, fd, ps, ds, F.mono h, r⟩
theorem calxM (c : CalX P w K mg base j x sp) (h : j ≤ k) : CalX P w K mg base k x sp := by
  obtain ⟨f, fd, ps, F, r⟩ := c.ex
  exact ⟨⟨f, fd, ps, F.mono h, r⟩⟩
theorem calgM (c : CalG P w K mg base j x sp) (h : j ≤ k) : CalG P w K mg base k x sp := by
  obtain ⟨f, fd, ps, F, r⟩ := c.ex
  exact ⟨⟨f, fd, ps, F.mono h, r⟩⟩
theorem calkM (c : CalK P w K mg base j x ks gV sp) (h : j ≤ k) : CalK P w K mg base k x ks gV sp := by
  obtain ⟨f, fd, ps, gu, CX, hC, F, r⟩ := c.ex
  exact ⟨⟨f, fd, ps, gu, CX, hC, F.mono h, r⟩⟩
end
theorem facts {l : OpenLaw} {w : World} {K : Frag} {h : Heap} {mg : PySem.Str → Option Value} {fa : Addr} (X : K.In h) (G : h.Ns mainGlobals mg) (hfa : mg ("law" : PySem.Str) = some (.ref fa)) (c : He.SaysX faL fnL tsL tfL exB w h K) : LawG l w K 13 63 "script" mg fa h := by
  have cd := c.t.d
  obtain ⟨y0, y⟩ := He.ba c.more
  obtain ⟨y1, y⟩ := He.ba y
  obtain ⟨y2, y⟩ := He.ba y
  obtain ⟨y3, y⟩ := He.ba y
  obtain ⟨x3, x⟩ := He.ba y
  obtain ⟨x4, x⟩ := He.ba x
  obtain ⟨x5, x⟩ := He.ba x
  obtain ⟨x6, x7⟩ := He.ba x
  have x5 := of_decide_eq_true x5
  have x6 := of_decide_eq_true x6
  have x7 := of_decide_eq_true x7
  have g_is_whole : mg "is_whole" = some (.ref (He.ga K "is_whole")) := He.glo_ok X G (cd.fact 0 (f := .glo "is_whole") rfl)
  obtain ⟨fd_is_whole, W_is_whole⟩ := cd.def_ 0 (d := d_is_whole) rfl
  have F_is_whole : Fun K "is_whole" "is_whole" s_is_whole (He.ga K "is_whole") fd_is_whole := funOf W_is_whole
  have D_is_whole : Df K mg "is_whole" s_is_whole ["value"] := ⟨_, _, F_is_whole, g_is_whole, F_is_whole.binds fun _ _ _ _ _ _ us hl => match us, hl with | [_], _ => rfl⟩
  have g_is_places : mg "is_places" = some (.ref (He.ga K "is_places")) := He.glo_ok X G (cd.fact 1 (f := .glo "is_places") rfl)
  obtain ⟨fd_is_places, W_is_places⟩ := cd.def_ 1 (d := d_is_places) rfl
  have F_is_places : Fun K "is_places" "is_places" s_is_places (He.ga K "is_places") fd_is_places := funOf W_is_places
  have D_is_places : Df K mg "is_places" s_is_places ["value", "size"] := ⟨_, _, F_is_places, g_is_places, F_is_places.binds fun _ _ _ _ _ _ us hl => match us, hl with | [_, _], _ => rfl⟩
  have g_is_integers : mg "is_integers" = some (.ref (He.ga K "is_integers")) := He.glo_ok X G (cd.fact 2 (f := .glo "is_integers") rfl)
  obtain ⟨fd_is_integers, W_is_integers⟩ := cd.def_ 2 (d := d_is_integers) rfl
  have F_is_integers : Fun K "is_integers" "is_integers" s_is_integers (He.ga K "is_integers") fd_is_integers := funOf W_is_integers
  have D_is_integers : Df K mg "is_integers" s_is_integers ["value", "many"] := ⟨_, _, F_is_integers, g_is_integers, F_is_integers.binds fun _ _ _ _ _ _ us hl => match us, hl with | [_, _], _ => rfl⟩
  have g_is_lot_of_places : mg "is_lot_of_places" = some (.ref (He.ga K "is_lot_of_places")) := He.glo_ok X G (cd.fact 3 (f := .glo "is_lot_of_places") rfl)
  obtain ⟨fd_is_lot_of_places, W_is_lot_of_places⟩ := cd.def_ 3 (d := d_is_lot_of_places) rfl
  have F_is_lot_of_places : Fun K "is_lot_of_places" "is_lot_of_places" s_is_lot_of_places (He.ga K "is_lot_of_places") fd_is_lot_of_places := funOf W_is_lot_of_places
  have D_is_lot_of_places : Df K mg "is_lot_of_places" s_is_lot_of_places ["value", "size"] := ⟨_, _, F_is_lot_of_places, g_is_lot_of_places, F_is_lot_of_places.binds fun _ _ _ _ _ _ us hl => match us, hl with | [_, _], _ => rfl⟩
  have g_is_unlike : mg "_is_unlike" = some (.ref (He.ga K "_is_unlike")) := He.glo_ok X G (cd.fact 4 (f := .glo "_is_unlike") rfl)
  obtain ⟨fd_is_unlike, W_is_unlike⟩ := cd.def_ 4 (d := d_is_unlike) rfl
  have F_is_unlike : Fun K "_is_unlike" "_is_unlike" s_is_unlike (He.ga K "_is_unlike") fd_is_unlike := funOf W_is_unlike
  have D_is_unlike : Df K mg "_is_unlike" s_is_unlike ["value", "size"] := ⟨_, _, F_is_unlike, g_is_unlike, F_is_unlike.binds fun _ _ _ _ _ _ us hl => match us, hl with | [_, _], _ => rfl⟩
  have g_is_jobs : mg "_is_jobs" = some (.ref (He.ga K "_is_jobs")) := He.glo_ok X G (cd.fact 5 (f := .glo "_is_jobs") rfl)
  obtain ⟨fd_is_jobs, W_is_jobs⟩ := cd.def_ 5 (d := d_is_jobs) rfl
  have F_is_jobs : Fun K "_is_jobs" "_is_jobs" s_is_jobs (He.ga K "_is_jobs") fd_is_jobs := funOf W_is_jobs
  have D_is_jobs : Df K mg "_is_jobs" s_is_jobs ["value", "size", "many"] := ⟨_, _, F_is_jobs, g_is_jobs, F_is_jobs.binds fun _ _ _ _ _ _ us hl => match us, hl with | [_, _, _], _ => rfl⟩
  have g_is_bench : mg "_is_bench" = some (.ref (He.ga K "_is_bench")) := He.glo_ok X G (cd.fact 6 (f := .glo "_is_bench") rfl)
  obtain ⟨fd_is_bench, W_is_bench⟩ := cd.def_ 6 (d := d_is_bench) rfl
  have F_is_bench : Fun K "_is_bench" "_is_bench" s_is_bench (He.ga K "_is_bench") fd_is_bench := funOf W_is_bench
  have D_is_bench : Df K mg "_is_bench" s_is_bench ["value", "size"] := ⟨_, _, F_is_bench, g_is_bench, F_is_bench.binds fun _ _ _ _ _ _ us hl => match us, hl with | [_, _], _ => rfl⟩
  have g_is_room : mg "_is_room" = some (.ref (He.ga K "_is_room")) := He.glo_ok X G (cd.fact 7 (f := .glo "_is_room") rfl)
  obtain ⟨fd_is_room, W_is_room⟩ := cd.def_ 7 (d := d_is_room) rfl
  have F_is_room : Fun K "_is_room" "_is_room" s_is_room (He.ga K "_is_room") fd_is_room := funOf W_is_room
  have D_is_room : Df K mg "_is_room" s_is_room ["value", "size"] := ⟨_, _, F_is_room, g_is_room, F_is_room.binds fun _ _ _ _ _ _ us hl => match us, hl with | [_, _], _ => rfl⟩
  have g_is_wish : mg "is_wish" = some (.ref (He.ga K "is_wish")) := He.glo_ok X G (cd.fact 8 (f := .glo "is_wish") rfl)
  obtain ⟨fd_is_wish, W_is_wish⟩ := cd.def_ 8 (d := d_is_wish) rfl
  have F_is_wish : Fun K "is_wish" "is_wish" s_is_wish (He.ga K "is_wish") fd_is_wish := funOf W_is_wish
  have D_is_wish : Df K mg "is_wish" s_is_wish ["value", "size"] := ⟨_, _, F_is_wish, g_is_wish, F_is_wish.binds fun _ _ _ _ _ _ us hl => match us, hl with | [_, _], _ => rfl⟩
  have g_is_name : mg "is_name" = some (.ref (He.ga K "is_name")) := He.glo_ok X G (cd.fact 9 (f := .glo "is_name") rfl)
  obtain ⟨fd_is_name, W_is_name⟩ := cd.def_ 9 (d := d_is_name) rfl
  have F_is_name : Fun K "is_name" "is_name" s_is_name (He.ga K "is_name") fd_is_name := funOf W_is_name
  have D_is_name : Df K mg "is_name" s_is_name ["value"] := ⟨_, _, F_is_name, g_is_name, F_is_name.binds fun _ _ _ _ _ _ us hl => match us, hl with | [_], _ => rfl⟩
  have g_is_pair : mg "is_pair" = some (.ref (He.ga K "is_pair")) := He.glo_ok X G (cd.fact 10 (f := .glo "is_pair") rfl)
  obtain ⟨fd_is_pair, W_is_pair⟩ := cd.def_ 10 (d := d_is_pair) rfl
  have F_is_pair : Fun K "is_pair" "is_pair" s_is_pair (He.ga K "is_pair") fd_is_pair := funOf W_is_pair
  have D_is_pair : Df K mg "is_pair" s_is_pair ["value"] := ⟨_, _, F_is_pair, g_is_pair, F_is_pair.binds fun _ _ _ _ _ _ us hl => match us, hl with | [_], _ => rfl⟩
  have g_is_unknown : mg "_is_unknown" = some (.ref (He.ga K "_is_unknown")) := He.glo_ok X G (cd.fact 11 (f := .glo "_is_unknown") rfl)
  obtain ⟨fd_is_unknown, W_is_unknown⟩ := cd.def_ 11 (d := d_is_unknown) rfl
  have F_is_unknown : Fun K "_is_unknown" "_is_unknown" s_is_unknown (He.ga K "_is_unknown") fd_is_unknown := funOf W_is_unknown
  have D_is_unknown : Df K mg "_is_unknown" s_is_unknown ["value"] := ⟨_, _, F_is_unknown, g_is_unknown, F_is_unknown.binds fun _ _ _ _ _ _ us hl => match us, hl with | [_], _ => rfl⟩
  have g_check_unknowns : mg "_check_unknowns" = some (.ref (He.ga K "_check_unknowns")) := He.glo_ok X G (cd.fact 12 (f := .glo "_check_unknowns") rfl)
  obtain ⟨fd_check_unknowns, W_check_unknowns⟩ := cd.def_ 12 (d := d_check_unknowns) rfl
  have F_check_unknowns : Fun K "_check_unknowns" "_check_unknowns" s_check_unknowns (He.ga K "_check_unknowns") fd_check_unknowns := funOf W_check_unknowns
  have D_check_unknowns : Df K mg "_check_unknowns" s_check_unknowns ["value"] := ⟨_, _, F_check_unknowns, g_check_unknowns, F_check_unknowns.binds fun _ _ _ _ _ _ us hl => match us, hl with | [_], _ => rfl⟩
  have g_check_wishes : mg "_check_wishes" = some (.ref (He.ga K "_check_wishes")) := He.glo_ok X G (cd.fact 13 (f := .glo "_check_wishes") rfl)
  obtain ⟨fd_check_wishes, W_check_wishes⟩ := cd.def_ 13 (d := d_check_wishes) rfl
  have F_check_wishes : Fun K "_check_wishes" "_check_wishes" s_check_wishes (He.ga K "_check_wishes") fd_check_wishes := funOf W_check_wishes
  have D_check_wishes : Df K mg "_check_wishes" s_check_wishes ["value", "size"] := ⟨_, _, F_check_wishes, g_check_wishes, F_check_wishes.binds fun _ _ _ _ _ _ us hl => match us, hl with | [_, _], _ => rfl⟩
  have g_check_goal : mg "_check_goal" = some (.ref (He.ga K "_check_goal")) := He.glo_ok X G (cd.fact 14 (f := .glo "_check_goal") rfl)
  obtain ⟨fd_check_goal, W_check_goal⟩ := cd.def_ 14 (d := d_check_goal) rfl
  have F_check_goal : Fun K "_check_goal" "_check_goal" s_check_goal (He.ga K "_check_goal") fd_check_goal := funOf W_check_goal
  have D_check_goal : Df K mg "_check_goal" s_check_goal ["value", "size"] := ⟨_, _, F_check_goal, g_check_goal, F_check_goal.binds fun _ _ _ _ _ _ us hl => match us, hl with | [_, _], _ => rfl⟩
  have g_size_of : mg "size_of" = some (.ref (He.ga K "size_of")) := He.glo_ok X G (cd.fact 15 (f := .glo "size_of") rfl)
  obtain ⟨fd_size_of, W_size_of⟩ := cd.def_ 15 (d := d_size_of) rfl
  have F_size_of : Fun K "size_of" "size_of" s_size_of (He.ga K "size_of") fd_size_of := funOf W_size_of
  have D_size_of : Df K mg "size_of" s_size_of ["wish"] := ⟨_, _, F_size_of, g_size_of, F_size_of.binds fun _ _ _ _ _ _ us hl => match us, hl with | [_], _ => rfl⟩
  have g_jobs_of : mg "jobs_of" = some (.ref (He.ga K "jobs_of")) := He.glo_ok X G (cd.fact 16 (f := .glo "jobs_of") rfl)
  obtain ⟨fd_jobs_of, W_jobs_of⟩ := cd.def_ 16 (d := d_jobs_of) rfl
  have F_jobs_of : Fun K "jobs_of" "jobs_of" s_jobs_of (He.ga K "jobs_of") fd_jobs_of := funOf W_jobs_of
  have D_jobs_of : Df K mg "jobs_of" s_jobs_of ["wish"] := ⟨_, _, F_jobs_of, g_jobs_of, F_jobs_of.binds fun _ _ _ _ _ _ us hl => match us, hl with | [_], _ => rfl⟩
  have g_job_windows : mg "job_windows" = some (.ref (He.ga K "job_windows")) := He.glo_ok X G (cd.fact 17 (f := .glo "job_windows") rfl)
  obtain ⟨fd_job_windows, W_job_windows⟩ := cd.def_ 17 (d := d_job_windows) rfl
  have F_job_windows : Fun K "job_windows" "job_windows" s_job_windows (He.ga K "job_windows") fd_job_windows := funOf W_job_windows
  have D_job_windows : Df K mg "job_windows" s_job_windows ["task", "k", "box"] := ⟨_, _, F_job_windows, g_job_windows, F_job_windows.binds fun _ _ _ _ _ _ us hl => match us, hl with | [_, _, _], _ => rfl⟩
  have g_end_of : mg "end_of" = some (.ref (He.ga K "end_of")) := He.glo_ok X G (cd.fact 18 (f := .glo "end_of") rfl)
  obtain ⟨fd_end_of, W_end_of⟩ := cd.def_ 18 (d := d_end_of) rfl
  have F_end_of : Fun K "end_of" "end_of" s_end_of (He.ga K "end_of") fd_end_of := funOf W_end_of
  have D_end_of : Df K mg "end_of" s_end_of ["window"] := ⟨_, _, F_end_of, g_end_of, F_end_of.binds fun _ _ _ _ _ _ us hl => match us, hl with | [_], _ => rfl⟩
  have g_work_of : mg "work_of" = some (.ref (He.ga K "work_of")) := He.glo_ok X G (cd.fact 19 (f := .glo "work_of") rfl)
  obtain ⟨fd_work_of, W_work_of⟩ := cd.def_ 19 (d := d_work_of) rfl
  have F_work_of : Fun K "work_of" "work_of" s_work_of (He.ga K "work_of") fd_work_of := funOf W_work_of
  have D_work_of : Df K mg "work_of" s_work_of ["window"] := ⟨_, _, F_work_of, g_work_of, F_work_of.binds fun _ _ _ _ _ _ us hl => match us, hl with | [_], _ => rfl⟩
  have g_backwards : mg "backwards" = some (.ref (He.ga K "backwards")) := He.glo_ok X G (cd.fact 20 (f := .glo "backwards") rfl)
  obtain ⟨fd_backwards, W_backwards⟩ := cd.def_ 20 (d := d_backwards) rfl
  have F_backwards : Fun K "backwards" "backwards" s_backwards (He.ga K "backwards") fd_backwards := funOf W_backwards
  have D_backwards : Df K mg "backwards" s_backwards ["windows"] := ⟨_, _, F_backwards, g_backwards, F_backwards.binds fun _ _ _ _ _ _ us hl => match us, hl with | [_], _ => rfl⟩
  have g_leaf_backwards : mg "leaf_backwards" = some (.ref (He.ga K "leaf_backwards")) := He.glo_ok X G (cd.fact 21 (f := .glo "leaf_backwards") rfl)
  obtain ⟨fd_leaf_backwards, W_leaf_backwards⟩ := cd.def_ 21 (d := d_leaf_backwards) rfl
  have F_leaf_backwards : Fun K "leaf_backwards" "leaf_backwards" s_leaf_backwards (He.ga K "leaf_backwards") fd_leaf_backwards := funOf W_leaf_backwards
  have D_leaf_backwards : Df K mg "leaf_backwards" s_leaf_backwards ["leaf"] := ⟨_, _, F_leaf_backwards, g_leaf_backwards, F_leaf_backwards.binds fun _ _ _ _ _ _ us hl => match us, hl with | [_], _ => rfl⟩
  have g_later_start : mg "later_start" = some (.ref (He.ga K "later_start")) := He.glo_ok X G (cd.fact 22 (f := .glo "later_start") rfl)
  obtain ⟨fd_later_start, W_later_start⟩ := cd.def_ 22 (d := d_later_start) rfl
  have F_later_start : Fun K "later_start" "later_start" s_later_start (He.ga K "later_start") fd_later_start := funOf W_later_start
  have D_later_start : Df K mg "later_start" s_later_start ["one", "other"] := ⟨_, _, F_later_start, g_later_start, F_later_start.binds fun _ _ _ _ _ _ us hl => match us, hl with | [_, _], _ => rfl⟩
  have g_late_leaf : mg "late_leaf" = some (.ref (He.ga K "late_leaf")) := He.glo_ok X G (cd.fact 23 (f := .glo "late_leaf") rfl)
  obtain ⟨fd_late_leaf, W_late_leaf⟩ := cd.def_ 23 (d := d_late_leaf) rfl
  have F_late_leaf : Fun K "late_leaf" "late_leaf" s_late_leaf (He.ga K "late_leaf") fd_late_leaf := funOf W_late_leaf
  have D_late_leaf : Df K mg "late_leaf" s_late_leaf ["k", "windows", "size"] := ⟨_, _, F_late_leaf, g_late_leaf, F_late_leaf.binds fun _ _ _ _ _ _ us hl => match us, hl with | [_, _, _], _ => rfl⟩
  have g_jobs_from : mg "jobs_from" = some (.ref (He.ga K "jobs_from")) := He.glo_ok X G (cd.fact 24 (f := .glo "jobs_from") rfl)
  obtain ⟨fd_jobs_from, W_jobs_from⟩ := cd.def_ 24 (d := d_jobs_from) rfl
  have F_jobs_from : Fun K "jobs_from" "jobs_from" s_jobs_from (He.ga K "jobs_from") fd_jobs_from := funOf W_jobs_from
  have D_jobs_from : Df K mg "jobs_from" s_jobs_from ["windows", "first"] := ⟨_, _, F_jobs_from, g_jobs_from, F_jobs_from.binds fun _ _ _ _ _ _ us hl => match us, hl with | [_, _], _ => rfl⟩
  have g_jobs_within : mg "jobs_within" = some (.ref (He.ga K "jobs_within")) := He.glo_ok X G (cd.fact 25 (f := .glo "jobs_within") rfl)
  obtain ⟨fd_jobs_within, W_jobs_within⟩ := cd.def_ 25 (d := d_jobs_within) rfl
  have F_jobs_within : Fun K "jobs_within" "jobs_within" s_jobs_within (He.ga K "jobs_within") fd_jobs_within := funOf W_jobs_within
  have D_jobs_within : Df K mg "jobs_within" s_jobs_within ["windows", "first", "last"] := ⟨_, _, F_jobs_within, g_jobs_within, F_jobs_within.binds fun _ _ _ _ _ _ us hl => match us, hl with | [_, _, _], _ => rfl⟩
  have g_load_leaf : mg "load_leaf" = some (.ref (He.ga K "load_leaf")) := He.glo_ok X G (cd.fact 26 (f := .glo "load_leaf") rfl)
  obtain ⟨fd_load_leaf, W_load_leaf⟩ := cd.def_ 26 (d := d_load_leaf) rfl
  have F_load_leaf : Fun K "load_leaf" "load_leaf" s_load_leaf (He.ga K "load_leaf") fd_load_leaf := funOf W_load_leaf
  have D_load_leaf : Df K mg "load_leaf" s_load_leaf ["k", "windows", "size"] := ⟨_, _, F_load_leaf, g_load_leaf, F_load_leaf.binds fun _ _ _ _ _ _ us hl => match us, hl with | [_, _, _], _ => rfl⟩
  have g_late_starts : mg "late_starts" = some (.ref (He.ga K "late_starts")) := He.glo_ok X G (cd.fact 27 (f := .glo "late_starts") rfl)
  obtain ⟨fd_late_starts, W_late_starts⟩ := cd.def_ 27 (d := d_late_starts) rfl
  have F_late_starts : Fun K "late_starts" "late_starts" s_late_starts (He.ga K "late_starts") fd_late_starts := funOf W_late_starts
  have D_late_starts : Df K mg "late_starts" s_late_starts ["k", "windows", "size"] := ⟨_, _, F_late_starts, g_late_starts, F_late_starts.binds fun _ _ _ _ _ _ us hl => match us, hl with | [_, _, _], _ => rfl⟩
  have g_load_start : mg "_load_start" = some (.ref (He.ga K "_load_start")) := He.glo_ok X G (cd.fact 28 (f := .glo "_load_start") rfl)
  obtain ⟨fd_load_start, W_load_start⟩ := cd.def_ 28 (d := d_load_start) rfl
  have F_load_start : Fun K "_load_start" "_load_start" s_load_start (He.ga K "_load_start") fd_load_start := funOf W_load_start
  have D_load_start : Df K mg "_load_start" s_load_start ["k", "windows", "job", "span"] := ⟨_, _, F_load_start, g_load_start, F_load_start.binds fun _ _ _ _ _ _ us hl => match us, hl with | [_, _, _, _], _ => rfl⟩
  have g_load_starts : mg "load_starts" = some (.ref (He.ga K "load_starts")) := He.glo_ok X G (cd.fact 29 (f := .glo "load_starts") rfl)
  obtain ⟨fd_load_starts, W_load_starts⟩ := cd.def_ 29 (d := d_load_starts) rfl
  have F_load_starts : Fun K "load_starts" "load_starts" s_load_starts (He.ga K "load_starts") fd_load_starts := funOf W_load_starts
  have D_load_starts : Df K mg "load_starts" s_load_starts ["k", "windows", "size"] := ⟨_, _, F_load_starts, g_load_starts, F_load_starts.binds fun _ _ _ _ _ _ us hl => match us, hl with | [_, _, _], _ => rfl⟩
  have g_bench_leaf : mg "bench_leaf" = some (.ref (He.ga K "bench_leaf")) := He.glo_ok X G (cd.fact 30 (f := .glo "bench_leaf") rfl)
  obtain ⟨fd_bench_leaf, W_bench_leaf⟩ := cd.def_ 30 (d := d_bench_leaf) rfl
  have F_bench_leaf : Fun K "bench_leaf" "bench_leaf" s_bench_leaf (He.ga K "bench_leaf") fd_bench_leaf := funOf W_bench_leaf
  have D_bench_leaf : Df K mg "bench_leaf" s_bench_leaf ["k", "windows", "size"] := ⟨_, _, F_bench_leaf, g_bench_leaf, F_bench_leaf.binds fun _ _ _ _ _ _ us hl => match us, hl with | [_, _, _], _ => rfl⟩
  have g_bench_starts : mg "bench_starts" = some (.ref (He.ga K "bench_starts")) := He.glo_ok X G (cd.fact 31 (f := .glo "bench_starts") rfl)
  obtain ⟨fd_bench_starts, W_bench_starts⟩ := cd.def_ 31 (d := d_bench_starts) rfl
  have F_bench_starts : Fun K "bench_starts" "bench_starts" s_bench_starts (He.ga K "bench_starts") fd_bench_starts := funOf W_bench_starts
  have D_bench_starts : Df K mg "bench_starts" s_bench_starts ["k", "windows", "size"] := ⟨_, _, F_bench_starts, g_bench_starts, F_bench_starts.binds fun _ _ _ _ _ _ us hl => match us, hl with | [_, _, _], _ => rfl⟩
  have g_draws_of_starts : mg "draws_of_starts" = some (.ref (He.ga K "draws_of_starts")) := He.glo_ok X G (cd.fact 32 (f := .glo "draws_of_starts") rfl)
  obtain ⟨fd_draws_of_starts, W_draws_of_starts⟩ := cd.def_ 32 (d := d_draws_of_starts) rfl
  have F_draws_of_starts : Fun K "draws_of_starts" "draws_of_starts" s_draws_of_starts (He.ga K "draws_of_starts") fd_draws_of_starts := funOf W_draws_of_starts
  have D_draws_of_starts : Df K mg "draws_of_starts" s_draws_of_starts ["wish", "windows", "least", "backward"] := ⟨_, _, F_draws_of_starts, g_draws_of_starts, F_draws_of_starts.binds fun _ _ _ _ _ _ us hl => match us, hl with | [_, _, _, _], _ => rfl⟩
  have g_bench_draws : mg "bench_draws" = some (.ref (He.ga K "bench_draws")) := He.glo_ok X G (cd.fact 33 (f := .glo "bench_draws") rfl)
  obtain ⟨fd_bench_draws, W_bench_draws⟩ := cd.def_ 33 (d := d_bench_draws) rfl
  have F_bench_draws : Fun K "bench_draws" "bench_draws" s_bench_draws (He.ga K "bench_draws") fd_bench_draws := funOf W_bench_draws
  have D_bench_draws : Df K mg "bench_draws" s_bench_draws ["task", "k", "box"] := ⟨_, _, F_bench_draws, g_bench_draws, F_bench_draws.binds fun _ _ _ _ _ _ us hl => match us, hl with | [_, _, _], _ => rfl⟩
  have g_Ldraw : mg "_law_draw" = some (.ref (He.ga K "_law_draw")) := He.glo_ok X G (cd.fact 34 (f := .glo "_law_draw") rfl)
  obtain ⟨fd_Ldraw, W_Ldraw⟩ := cd.def_ 34 (d := d_Ldraw) rfl
  have F_Ldraw : Fun K "_law_draw" "_law_draw" s_Ldraw (He.ga K "_law_draw") fd_Ldraw := funOf W_Ldraw
  have D_Ldraw : Df K mg "_law_draw" s_Ldraw ["heap", "many"] := ⟨_, _, F_Ldraw, g_Ldraw, F_Ldraw.binds fun _ _ _ _ _ _ us hl => match us, hl with | [_, _], _ => rfl⟩
  have g_Lheap : mg "_law_heap" = some (.ref (He.ga K "_law_heap")) := He.glo_ok X G (cd.fact 35 (f := .glo "_law_heap") rfl)
  obtain ⟨fd_Lheap, W_Lheap⟩ := cd.def_ 35 (d := d_Lheap) rfl
  have F_Lheap : Fun K "_law_heap" "_law_heap" s_Lheap (He.ga K "_law_heap") fd_Lheap := funOf W_Lheap
  have D_Lheap : Df K mg "_law_heap" s_Lheap ["script"] := ⟨_, _, F_Lheap, g_Lheap, F_Lheap.binds fun _ _ _ _ _ _ us hl => match us, hl with | [_], _ => rfl⟩
  have g_Lpick : mg "_law_pick" = some (.ref (He.ga K "_law_pick")) := He.glo_ok X G (cd.fact 36 (f := .glo "_law_pick") rfl)
  obtain ⟨fd_Lpick, W_Lpick⟩ := cd.def_ 36 (d := d_Lpick) rfl
  have F_Lpick : Fun K "_law_pick" "_law_pick" s_Lpick (He.ga K "_law_pick") fd_Lpick := funOf W_Lpick
  have D_Lpick : Df K mg "_law_pick" s_Lpick ["heap", "some"] := ⟨_, _, F_Lpick, g_Lpick, F_Lpick.binds fun _ _ _ _ _ _ us hl => match us, hl with | [_, _], _ => rfl⟩
  have g_Ltask : mg "_law_task" = some (.ref (He.ga K "_law_task")) := He.glo_ok X G (cd.fact 37 (f := .glo "_law_task") rfl)
  obtain ⟨fd_Ltask, W_Ltask⟩ := cd.def_ 37 (d := d_Ltask) rfl
  have F_Ltask : Fun K "_law_task" "_law_task" s_Ltask (He.ga K "_law_task") fd_Ltask := funOf W_Ltask
  have D_Ltask : Df K mg "_law_task" s_Ltask ["heap", "kind"] := ⟨_, _, F_Ltask, g_Ltask, F_Ltask.binds fun _ _ _ _ _ _ us hl => match us, hl with | [_, _], _ => rfl⟩
  have g_Lwithin : mg "_law_within" = some (.ref (He.ga K "_law_within")) := He.glo_ok X G (cd.fact 38 (f := .glo "_law_within") rfl)
  obtain ⟨fd_Lwithin, W_Lwithin⟩ := cd.def_ 38 (d := d_Lwithin) rfl
  have F_Lwithin : Fun K "_law_within" "_law_within" s_Lwithin (He.ga K "_law_within") fd_Lwithin := funOf W_Lwithin
  have D_Lwithin : Df K mg "_law_within" s_Lwithin ["windows", "a", "b"] := ⟨_, _, F_Lwithin, g_Lwithin, F_Lwithin.binds fun _ _ _ _ _ _ us hl => match us, hl with | [_, _, _], _ => rfl⟩
  have g_Lwork : mg "_law_work" = some (.ref (He.ga K "_law_work")) := He.glo_ok X G (cd.fact 39 (f := .glo "_law_work") rfl)
  obtain ⟨fd_Lwork, W_Lwork⟩ := cd.def_ 39 (d := d_Lwork) rfl
  have F_Lwork : Fun K "_law_work" "_law_work" s_Lwork (He.ga K "_law_work") fd_Lwork := funOf W_Lwork
  have D_Lwork : Df K mg "_law_work" s_Lwork ["windows", "jobs"] := ⟨_, _, F_Lwork, g_Lwork, F_Lwork.binds fun _ _ _ _ _ _ us hl => match us, hl with | [_, _], _ => rfl⟩
  have g_Llate : mg "_law_late" = some (.ref (He.ga K "_law_late")) := He.glo_ok X G (cd.fact 40 (f := .glo "_law_late") rfl)
  obtain ⟨fd_Llate, W_Llate⟩ := cd.def_ 40 (d := d_Llate) rfl
  have F_Llate : Fun K "_law_late" "_law_late" s_Llate (He.ga K "_law_late") fd_Llate := funOf W_Llate
  have D_Llate : Df K mg "_law_late" s_Llate ["windows", "size", "i", "j"] := ⟨_, _, F_Llate, g_Llate, F_Llate.binds fun _ _ _ _ _ _ us hl => match us, hl with | [_, _, _, _], _ => rfl⟩
  have g_Lsure : mg "_law_sure" = some (.ref (He.ga K "_law_sure")) := He.glo_ok X G (cd.fact 41 (f := .glo "_law_sure") rfl)
  obtain ⟨fd_Lsure, W_Lsure⟩ := cd.def_ 41 (d := d_Lsure) rfl
  have F_Lsure : Fun K "_law_sure" "_law_sure" s_Lsure (He.ga K "_law_sure") fd_Lsure := funOf W_Lsure
  have D_Lsure : Df K mg "_law_sure" s_Lsure ["windows", "moment"] := ⟨_, _, F_Lsure, g_Lsure, F_Lsure.binds fun _ _ _ _ _ _ us hl => match us, hl with | [_, _], _ => rfl⟩
  have g_Lshown : mg "_law_shown" = some (.ref (He.ga K "_law_shown")) := He.glo_ok X G (cd.fact 42 (f := .glo "_law_shown") rfl)
  obtain ⟨fd_Lshown, W_Lshown⟩ := cd.def_ 42 (d := d_Lshown) rfl
  have F_Lshown : Fun K "_law_shown" "_law_shown" s_Lshown (He.ga K "_law_shown") fd_Lshown := funOf W_Lshown
  have D_Lshown : Df K mg "_law_shown" s_Lshown ["windows", "size", "moments"] := ⟨_, _, F_Lshown, g_Lshown, F_Lshown.binds fun _ _ _ _ _ _ us hl => match us, hl with | [_, _, _], _ => rfl⟩
  have g_Lchanged : mg "_law_changed" = some (.ref (He.ga K "_law_changed")) := He.glo_ok X G (cd.fact 43 (f := .glo "_law_changed") rfl)
  obtain ⟨fd_Lchanged, W_Lchanged⟩ := cd.def_ 43 (d := d_Lchanged) rfl
  have F_Lchanged : Fun K "_law_changed" "_law_changed" s_Lchanged (He.ga K "_law_changed") fd_Lchanged := funOf W_Lchanged
  have D_Lchanged : Df K mg "_law_changed" s_Lchanged ["windows", "j", "low", "high"] := ⟨_, _, F_Lchanged, g_Lchanged, F_Lchanged.binds fun _ _ _ _ _ _ us hl => match us, hl with | [_, _, _, _], _ => rfl⟩
  have g_Lis_lot : mg "_law_is_lot" = some (.ref (He.ga K "_law_is_lot")) := He.glo_ok X G (cd.fact 44 (f := .glo "_law_is_lot") rfl)
  obtain ⟨fd_Lis_lot, W_Lis_lot⟩ := cd.def_ 44 (d := d_Lis_lot) rfl
  have F_Lis_lot : Fun K "_law_is_lot" "_law_is_lot" s_Lis_lot (He.ga K "_law_is_lot") fd_Lis_lot := funOf W_Lis_lot
  have D_Lis_lot : Df K mg "_law_is_lot" s_Lis_lot ["value", "many"] := ⟨_, _, F_Lis_lot, g_Lis_lot, F_Lis_lot.binds fun _ _ _ _ _ _ us hl => match us, hl with | [_, _], _ => rfl⟩
  have g_Lfarthest : mg "_law_farthest" = some (.ref (He.ga K "_law_farthest")) := He.glo_ok X G (cd.fact 45 (f := .glo "_law_farthest") rfl)
  obtain ⟨fd_Lfarthest, W_Lfarthest⟩ := cd.def_ 45 (d := d_Lfarthest) rfl
  have F_Lfarthest : Fun K "_law_farthest" "_law_farthest" s_Lfarthest (He.ga K "_law_farthest") fd_Lfarthest := funOf W_Lfarthest
  have D_Lfarthest : Df K mg "_law_farthest" s_Lfarthest ["windows", "size", "j", "moments"] := ⟨_, _, F_Lfarthest, g_Lfarthest, F_Lfarthest.binds fun _ _ _ _ _ _ us hl => match us, hl with | [_, _, _, _], _ => rfl⟩
  have g_Lwindows : mg "_law_windows" = some (.ref (He.ga K "_law_windows")) := He.glo_ok X G (cd.fact 46 (f := .glo "_law_windows") rfl)
  obtain ⟨fd_Lwindows, W_Lwindows⟩ := cd.def_ 46 (d := d_Lwindows) rfl
  have F_Lwindows : Fun K "_law_windows" "_law_windows" s_Lwindows (He.ga K "_law_windows") fd_Lwindows := funOf W_Lwindows
  have D_Lwindows : Df K mg "_law_windows" s_Lwindows ["wish", "box"] := ⟨_, _, F_Lwindows, g_Lwindows, F_Lwindows.binds fun _ _ _ _ _ _ us hl => match us, hl with | [_, _], _ => rfl⟩
  have g_load_holds : mg "_load_holds" = some (.ref (He.ga K "_load_holds")) := He.glo_ok X G (cd.fact 47 (f := .glo "_load_holds") rfl)
  obtain ⟨fd_load_holds, W_load_holds⟩ := cd.def_ 47 (d := d_load_holds) rfl
  have F_load_holds : Fun K "_load_holds" "_load_holds" s_load_holds (He.ga K "_load_holds") fd_load_holds := funOf W_load_holds
  have D_load_holds : Df K mg "_load_holds" s_load_holds ["task", "box", "value"] := ⟨_, _, F_load_holds, g_load_holds, F_load_holds.binds fun _ _ _ _ _ _ us hl => match us, hl with | [_, _, _], _ => rfl⟩
  have g_late_holds : mg "_late_holds" = some (.ref (He.ga K "_late_holds")) := He.glo_ok X G (cd.fact 48 (f := .glo "_late_holds") rfl)
  obtain ⟨fd_late_holds, W_late_holds⟩ := cd.def_ 48 (d := d_late_holds) rfl
  have F_late_holds : Fun K "_late_holds" "_late_holds" s_late_holds (He.ga K "_late_holds") fd_late_holds := funOf W_late_holds
  have D_late_holds : Df K mg "_late_holds" s_late_holds ["task", "box", "value"] := ⟨_, _, F_late_holds, g_late_holds, F_late_holds.binds fun _ _ _ _ _ _ us hl => match us, hl with | [_, _, _], _ => rfl⟩
  have g_leaf_holds : mg "leaf_holds" = some (.ref (He.ga K "leaf_holds")) := He.glo_ok X G (cd.fact 49 (f := .glo "leaf_holds") rfl)
  obtain ⟨fd_leaf_holds, W_leaf_holds⟩ := cd.def_ 49 (d := d_leaf_holds) rfl
  have F_leaf_holds : Fun K "leaf_holds" "leaf_holds" s_leaf_holds (He.ga K "leaf_holds") fd_leaf_holds := funOf W_leaf_holds
  have D_leaf_holds : Df K mg "leaf_holds" s_leaf_holds ["task", "cuts", "box", "value", "worth"] := ⟨_, _, F_leaf_holds, g_leaf_holds, F_leaf_holds.binds fun _ _ _ _ _ _ us hl => match us, hl with | [_, _, _, _, _], _ => rfl⟩
  have g_Lleaf_right : mg "_law_leaf_right" = some (.ref (He.ga K "_law_leaf_right")) := He.glo_ok X G (cd.fact 50 (f := .glo "_law_leaf_right") rfl)
  obtain ⟨fd_Lleaf_right, W_Lleaf_right⟩ := cd.def_ 50 (d := d_Lleaf_right) rfl
  have F_Lleaf_right : Fun K "_law_leaf_right" "_law_leaf_right" s_Lleaf_right (He.ga K "_law_leaf_right") fd_Lleaf_right := funOf W_Lleaf_right
  have D_Lleaf_right : Df K mg "_law_leaf_right" s_Lleaf_right ["leaf", "k", "windows", "size", "moments"] := ⟨_, _, F_Lleaf_right, g_Lleaf_right, F_Lleaf_right.binds fun _ _ _ _ _ _ us hl => match us, hl with | [_, _, _, _, _], _ => rfl⟩
  have g_Ldrawn_right : mg "_law_drawn_right" = some (.ref (He.ga K "_law_drawn_right")) := He.glo_ok X G (cd.fact 51 (f := .glo "_law_drawn_right") rfl)
  obtain ⟨fd_Ldrawn_right, W_Ldrawn_right⟩ := cd.def_ 51 (d := d_Ldrawn_right) rfl
  have F_Ldrawn_right : Fun K "_law_drawn_right" "_law_drawn_right" s_Ldrawn_right (He.ga K "_law_drawn_right") fd_Ldrawn_right := funOf W_Ldrawn_right
  have D_Ldrawn_right : Df K mg "_law_drawn_right" s_Ldrawn_right ["task", "k", "box", "moments", "told"] := ⟨_, _, F_Ldrawn_right, g_Ldrawn_right, F_Ldrawn_right.binds fun _ _ _ _ _ _ us hl => match us, hl with | [_, _, _, _, _], _ => rfl⟩
  have g_Lkeeps : mg "_law_keeps" = some (.ref (He.ga K "_law_keeps")) := He.glo_ok X G (cd.fact 52 (f := .glo "_law_keeps") rfl)
  obtain ⟨fd_Lkeeps, W_Lkeeps⟩ := cd.def_ 52 (d := d_Lkeeps) rfl
  have F_Lkeeps : Fun K "_law_keeps" "_law_keeps" s_Lkeeps (He.ga K "_law_keeps") fd_Lkeeps := funOf W_Lkeeps
  have D_Lkeeps : Df K mg "_law_keeps" s_Lkeeps ["windows", "size", "starts"] := ⟨_, _, F_Lkeeps, g_Lkeeps, F_Lkeeps.binds fun _ _ _ _ _ _ us hl => match us, hl with | [_, _, _], _ => rfl⟩
  have g_Lall_starts : mg "_law_all_starts" = some (.ref (He.ga K "_law_all_starts")) := He.glo_ok X G (cd.fact 53 (f := .glo "_law_all_starts") rfl)
  obtain ⟨fd_Lall_starts, W_Lall_starts⟩ := cd.def_ 53 (d := d_Lall_starts) rfl
  have F_Lall_starts : Fun K "_law_all_starts" "_law_all_starts" s_Lall_starts (He.ga K "_law_all_starts") fd_Lall_starts := funOf W_Lall_starts
  have D_Lall_starts : Df K mg "_law_all_starts" s_Lall_starts ["windows"] := ⟨_, _, F_Lall_starts, g_Lall_starts, F_Lall_starts.binds fun _ _ _ _ _ _ us hl => match us, hl with | [_], _ => rfl⟩
  have g_Lnone_lost : mg "_law_none_lost" = some (.ref (He.ga K "_law_none_lost")) := He.glo_ok X G (cd.fact 54 (f := .glo "_law_none_lost") rfl)
  obtain ⟨fd_Lnone_lost, W_Lnone_lost⟩ := cd.def_ 54 (d := d_Lnone_lost) rfl
  have F_Lnone_lost : Fun K "_law_none_lost" "_law_none_lost" s_Lnone_lost (He.ga K "_law_none_lost") fd_Lnone_lost := funOf W_Lnone_lost
  have D_Lnone_lost : Df K mg "_law_none_lost" s_Lnone_lost ["task", "k", "box", "told"] := ⟨_, _, F_Lnone_lost, g_Lnone_lost, F_Lnone_lost.binds fun _ _ _ _ _ _ us hl => match us, hl with | [_, _, _, _], _ => rfl⟩
  have g_Lworld_right : mg "_law_world_right" = some (.ref (He.ga K "_law_world_right")) := He.glo_ok X G (cd.fact 55 (f := .glo "_law_world_right") rfl)
  obtain ⟨fd_Lworld_right, W_Lworld_right⟩ := cd.def_ 55 (d := d_Lworld_right) rfl
  have F_Lworld_right : Fun K "_law_world_right" "_law_world_right" s_Lworld_right (He.ga K "_law_world_right") fd_Lworld_right := funOf W_Lworld_right
  have D_Lworld_right : Df K mg "_law_world_right" s_Lworld_right ["heap", "more"] := ⟨_, _, F_Lworld_right, g_Lworld_right, F_Lworld_right.binds fun _ _ _ _ _ _ us hl => match us, hl with | [_, _], _ => rfl⟩
  have g_law : mg "law" = some (.ref (He.ga K "law")) := He.glo_ok X G (cd.fact 56 (f := .glo "law") rfl)
  obtain ⟨fd_law, W_law⟩ := cd.def_ 56 (d := d_law) rfl
  have F_law : Fun K "law" "law" s_law (He.ga K "law") fd_law := funOf W_law
  have g_Task : mg "Task" = some (.ref (He.ga K "Task")) := He.glo_ok X G (cd.fact 57 (f := .glo "Task") rfl)
  have g_WORDS : mg "WORDS" = some (.ref (He.ga K "WORDS")) := He.glo_ok X G (cd.fact 58 (f := .glo "WORDS") rfl)
  have g_WISH_TESTS : mg "WISH_TESTS" = some (.ref (He.ga K "WISH_TESTS")) := He.glo_ok X G (cd.fact 59 (f := .glo "WISH_TESTS") rfl)
  have g_LEAF_TESTS : mg "LEAF_TESTS" = some (.ref (He.ga K "LEAF_TESTS")) := He.glo_ok X G (cd.fact 60 (f := .glo "LEAF_TESTS") rfl)
  have g_LEAF_ITEMS : mg "LEAF_ITEMS" = some (.ref (He.ga K "LEAF_ITEMS")) := He.glo_ok X G (cd.fact 61 (f := .glo "LEAF_ITEMS") rfl)
  have g_LEAF_KINDS : mg "LEAF_KINDS" = some (.ref (He.ga K "LEAF_KINDS")) := He.glo_ok X G (cd.fact 62 (f := .glo "LEAF_KINDS") rfl)
  obtain ⟨t2, z_LONG⟩ := He.int_ok X G (cd.fact 63 (f := .int "LONGEST_NAME" 6) rfl)
  obtain ⟨t3, z_LETT⟩ := He.str_ok X G (cd.fact 64 (f := .str "LETTERS" "abcdefghijklmnopqrstuvwxyz") rfl)
  have cT : Cls K (He.ga K "Task") := He.cls_ok (cd.fact 65 (f := .cls "Task") rfl)
  have n_unknowns : NoAttr K (He.ga K "Task") "unknowns" := He.noat_ok (cd.fact 66 (f := .noat "Task" "unknowns") rfl)
  have n_wishes : NoAttr K (He.ga K "Task") "wishes" := He.noat_ok (cd.fact 67 (f := .noat "Task" "wishes") rfl)
  have n_goal : NoAttr K (He.ga K "Task") "goal" := He.noat_ok (cd.fact 68 (f := .noat "Task" "goal") rfl)
  have mT : Mk K (He.ga K "Task") (He.ma K (He.ga K "Task") "__init__") := He.mkr_ok (cd.fact 69 (f := .mkr "Task") rfl)
  have z_len : mg "len" = none := He.free_ok X G (cd.fact 70 (f := .free "len") rfl)
  have z_range : mg "range" = none := He.free_ok X G (cd.fact 71 (f := .free "range") rfl)
  have z_int : mg "int" = none := He.free_ok X G (cd.fact 72 (f := .free "int") rfl)
  have z_abs : mg "abs" = none := He.free_ok X G (cd.fact 73 (f := .free "abs") rfl)
  have z_all : mg "all" = none := He.free_ok X G (cd.fact 74 (f := .free "all") rfl)
  have z_sum : mg "sum" = none := He.free_ok X G (cd.fact 75 (f := .free "sum") rfl)
  have z_repr : mg "repr" = none := He.free_ok X G (cd.fact 76 (f := .free "repr") rfl)
  have z_tuple : mg "tuple" = none := He.free_ok X G (cd.fact 77 (f := .free "tuple") rfl)
  have z_bool : mg "bool" = none := He.free_ok X G (cd.fact 78 (f := .free "bool") rfl)
  have z_str : mg "str" = none := He.free_ok X G (cd.fact 79 (f := .free "str") rfl)
  have z_list : mg "list" = none := He.free_ok X G (cd.fact 80 (f := .free "list") rfl)
  have z_set : mg "set" = none := He.free_ok X G (cd.fact 81 (f := .free "set") rfl)
  have z_any : mg "any" = none := He.free_ok X G (cd.fact 82 (f := .free "any") rfl)
  have z_zip : mg "zip" = none := He.free_ok X G (cd.fact 83 (f := .free "zip") rfl)
  have z_enumerate : mg "enumerate" = none := He.free_ok X G (cd.fact 84 (f := .free "enumerate") rfl)
  have z_isinstance : mg "isinstance" = none := He.free_ok X G (cd.fact 85 (f := .free "isinstance") rfl)
  have z_min : mg "min" = none := He.free_ok X G (cd.fact 86 (f := .free "min") rfl)
  have z_max : mg "max" = none := He.free_ok X G (cd.fact 87 (f := .free "max") rfl)
  have z_sorted : mg "sorted" = none := He.free_ok X G (cd.fact 88 (f := .free "sorted") rfl)
  obtain ⟨fd_Ti, W_Ti⟩ := cd.def_ 57 (d := d_Ti) rfl
  have F_Ti : Fun K "__init__" "Task.__init__" s_Task_init (He.ma K (He.ga K "Task") "__init__") fd_Ti := funOf W_Ti
  have B_Ti : Binds K fd_Ti ["self", "unknowns", "wishes", "goal"] [] := F_Ti.binds fun _ _ _ _ _ _ us hl => match us, hl with | [_, _, _, _], _ => rfl
  obtain ⟨es, nn, kd⟩ := c.t.tab 0 (t := (fun K => He.ga K "WISH_TESTS", ["sum", "unlike", "table", "either", "bench", "room", "round"])) rfl
  have kd : L2.KDict K w (He.ga K "WISH_TESTS") es nn := kd
  obtain ⟨es2, nn2, kd2⟩ := c.t.tab 1 (t := (fun K => He.ga K "LEAF_TESTS", ["crowd", "out", "shut", "late", "load", "full", "ring", "broken"])) rfl
  have kd2 : L2.KDict K w (He.ga K "LEAF_TESTS") es2 nn2 := kd2
  obtain ⟨es3, nn3, kd3⟩ := c.t.tab 2 (t := (fun K => He.ga K "LEAF_ITEMS", ["crowd", "out", "shut", "late", "load", "full", "ring", "broken"])) rfl
  have kd3 : L2.KDict K w (He.ga K "LEAF_ITEMS") es3 nn3 := kd3
  obtain ⟨es4, nn4, kd4⟩ := c.t.tab 3 (t := (fun K => He.ga K "LEAF_KINDS", ["crowd", "out", "shut", "late", "load", "full", "ring", "broken"])) rfl
  have kd4 : L2.KDict K w (He.ga K "LEAF_KINDS") es4 nn4 := kd4
  obtain ⟨aP, eP, sP⟩ := kndB_ok y0
  obtain ⟨aQ, eQ, sQ⟩ := kndB_ok y1
  obtain ⟨v2, i2, w2⟩ := He.valsB_ok y2 (q := ("late", .glo "_late_holds")) (List.mem_cons_self ..)
  obtain ⟨v0, i0, w0⟩ := He.valsB_ok y2 (q := ("load", .glo "_load_holds")) (List.mem_cons_of_mem _ (List.mem_cons_self ..))
  obtain ⟨v3, i3, w3⟩ := He.valsB_ok y3 (q := ("late", .int 4)) (List.mem_cons_self ..)
  obtain ⟨v1, i1, w1⟩ := He.valsB_ok y3 (q := ("load", .int 5)) (List.mem_cons_of_mem _ (List.mem_cons_self ..))
  have T : Txt K mg w (He.ga K "WORDS") (He.ga K "WISH_TESTS") es nn := ⟨z_len, z_range, z_int, z_abs, z_all, z_sum, z_repr, z_tuple, z_bool, z_str, z_list, z_set, z_any, z_zip, z_enumerate, z_isinstance, z_min, z_max, z_sorted, ⟨_, z_LONG, ⟨_, rfl⟩⟩, ⟨_, z_LETT, ⟨_, rfl⟩⟩, ⟨_, g_WORDS, rfl⟩, ⟨_, g_WISH_TESTS, rfl⟩, fun H => tupB_ok x3 H, kd⟩
  have CCt : CC K (He.ga K "Task") := ⟨cT, n_unknowns, n_wishes, n_goal⟩
  have FC := funCOf (p := pD) F_jobs_from
  have efa : fa = He.ga K "law" := by
    have e := hfa.symm.trans g_law
    cases e
    rfl
  subst efa
  obtain ⟨u0, e0, r0⟩ := He.valsB_ok x4 (q := ("unlike", .glo "_is_unlike")) (List.mem_cons_self ..)
  obtain ⟨u1, e1, r1⟩ := He.valsB_ok x4 (q := ("bench", .glo "_is_bench")) (List.mem_cons_of_mem _ (List.mem_cons_self ..))
  obtain ⟨u2, e2, r2⟩ := He.valsB_ok x4 (q := ("room", .glo "_is_room")) (List.mem_cons_of_mem _ (List.mem_cons_of_mem _ (List.mem_cons_self ..)))
  have tfp : pD ∈ tfL := List.mem_cons_self ..
  have csm : ∀ p ∈ [He.cT K pD], ∃ d ∈ tfL, p = He.cT K d := fun p hp => ⟨pD, tfp, List.mem_singleton.mp hp⟩
  have HUA : ∀ p ∈ [((He.cT K pD).2, qF)], p.1 = (He.cT K pD).2 → p.2 = qF := fun p hp e => by rw [List.mem_singleton.mp hp]
  refine ⟨fd_law, [He.cT K pD], spLaw K [((He.cT K pD).2, qF)], fun p hp => ?_, fun p hp => ?_, fun p hp => ?_, ?_, ?_, ?_⟩
  · obtain ⟨d, hd, rfl⟩ := csm p hp
    exact c.empty d hd
  · obtain ⟨d, hd, rfl⟩ := csm p hp
    exact c.out d hd
  · obtain ⟨d, hd, rfl⟩ := csm p hp
    exact codeHd_of_K X (c.hd d hd)
  · intro s u
    obtain ⟨oc, od, kV, doc, pm, an, cdv, ct, osl, rfl, lk, hc⟩ := F_law.ex
    exact .of_eq rfl
  · intro H a ns hl _ hH hS
    refine ⟨a, ns, rfl, hS, hl, fun p hp => ?_, fun _ => rfl⟩
    rw [List.mem_singleton.mp hp]
    exact LamX.TabS.nil (hH _ (List.mem_cons_self ..))
  · intro base _ _ TB
    have TA := TB _ (List.mem_cons_self ..)
    have h0 : CX0 = CX0 ∨ CX0 = L2.CX l.prog w := .inl rfl
    have h1 : L2.CX l.prog w = CX0 ∨ L2.CX l.prog w = L2.CX l.prog w := .inr rfl
    have a_is_whole : Cal l.prog w K mg base 1 "is_whole" spWhole [] := cal_of D_is_whole fun _ _ F => ok_is_whole F T
    have a_is_places : Cal l.prog w K mg base 2 "is_places" spPlaces [] := cal_of D_is_places fun _ _ F => ok_is_places F T a_is_whole
    have a_is_integers : Cal l.prog w K mg base 2 "is_integers" spInts [] := cal_of D_is_integers fun _ _ F => ok_is_integers F T a_is_whole
    have a_is_lot_of_places : Cal l.prog w K mg base 3 "is_lot_of_places" spLot [] := cal_of D_is_lot_of_places fun _ _ F => ok_is_lot_of_places F T a_is_places
    have a_is_unlike : Cal l.prog w K mg base 4 "_is_unlike" spUnlike [] := cal_of D_is_unlike fun _ _ F => ok_is_unlike F T a_is_lot_of_places
    have a_is_jobs : Cal l.prog w K mg base 4 "_is_jobs" spJobs [] := cal_of D_is_jobs fun _ _ F => ok_is_jobs F T a_is_integers a_is_lot_of_places
    have a_is_bench : Cal l.prog w K mg base 5 "_is_bench" spBench [] := cal_of D_is_bench fun _ _ F => ok_is_bench F T a_is_jobs
    have a_is_room : Cal l.prog w K mg base 5 "_is_room" spRoom [] := cal_of D_is_room fun _ _ F => ok_is_room F T a_is_whole a_is_jobs
    have TS : Tst l.prog w K mg base (He.ga K "WISH_TESTS") (He.ga K "_is_unlike") (He.ga K "_is_bench") (He.ga K "_is_room") :=
      ⟨⟨_, _, (ok_is_unlike F_is_unlike T a_is_lot_of_places).mono (by decide), F_is_unlike.kp, F_is_unlike.binds fun _ _ _ _ _ _ us hl => match us, hl with | [_, _], _ => rfl⟩, ⟨_, _, ok_is_bench F_is_bench T a_is_jobs, F_is_bench.kp, F_is_bench.binds fun _ _ _ _ _ _ us hl => match us, hl with | [_, _], _ => rfl⟩, ⟨_, _, ok_is_room F_is_room T a_is_whole a_is_jobs, F_is_room.kp, F_is_room.binds fun _ _ _ _ _ _ us hl => match us, hl with | [_, _], _ => rfl⟩, ⟨_, _, u0, kd.at_, kd.lit, e0, r0⟩, ⟨_, _, u1, kd.at_, kd.lit, e1, r1⟩, ⟨_, _, u2, kd.at_, kd.lit, e2, r2⟩, x5, x6, x7⟩
    have a_is_wish : Cal l.prog w K mg base 6 "is_wish" spWish [] := cal_of D_is_wish fun _ _ F => ok_is_wish F T TS
    have a_is_name : Cal l.prog w K mg base 1 "is_name" spName [] := cal_of D_is_name fun _ _ F => ok_is_name F T
    have a_is_pair : Cal l.prog w K mg base 2 "is_pair" spPair [] := cal_of D_is_pair fun _ _ F => ok_is_pair F T a_is_whole
    have a_is_unknown : Cal l.prog w K mg base 3 "_is_unknown" spUnknown [] := cal_of D_is_unknown fun _ _ F => ok_is_unknown F T a_is_name a_is_pair
    have a_check_unknowns : Cal l.prog w K mg base 4 "_check_unknowns" spChU [] := cal_of D_check_unknowns fun _ _ F => ok_check_unknowns F T a_is_unknown
    have a_check_wishes : Cal l.prog w K mg base 7 "_check_wishes" spChW [] := cal_of D_check_wishes fun _ _ F => ok_check_wishes F T a_is_wish
    have a_check_goal : Cal l.prog w K mg base 2 "_check_goal" spChG [] := cal_of D_check_goal fun _ _ F => ok_check_goal F T a_is_whole
    have mkT : Mak l.prog w K mg base 8 "Task" (He.ga K "Task") (spTask (He.ga K "Task")) [] := ⟨_, _, _, [], mT, ok_Task_init F_Ti cT ⟨n_unknowns, n_wishes, n_goal⟩ T a_check_unknowns a_check_wishes a_check_goal, g_Task, B_Ti, .nil⟩
    have a_size_of : Cal l.prog w K mg base 1 "size_of" spSize [] := cal_of D_size_of fun _ _ F => ok_size_of F 
    have a_jobs_of : Cal l.prog w K mg base 1 "jobs_of" spJobsOf [] := cal_of D_jobs_of fun _ _ F => ok_jobs_of F T
    have a_job_windows : Cal l.prog w K mg base 2 "job_windows" (spWin (He.ga K "Task")) [] := cal_of D_job_windows fun _ _ F => ok_job_windows F T CCt a_jobs_of
    have a_end_of : Cal l.prog w K mg base 1 "end_of" spEnd [] := cal_of D_end_of fun _ _ F => ok_end_of F 
    have a_work_of : Cal l.prog w K mg base 1 "work_of" spWork [] := cal_of D_work_of fun _ _ F => ok_work_of F 
    have a_backwards : Cal l.prog w K mg base 1 "backwards" spBack [] := cal_of D_backwards fun _ _ F => ok_backwards F T
    have a_leaf_backwards : Cal l.prog w K mg base 1 "leaf_backwards" spLb [] := cal_of D_leaf_backwards fun _ _ F => ok_leaf_backwards F 
    have a_later_start : Cal l.prog w K mg base 1 "later_start" spLater [] := cal_of D_later_start fun _ _ F => ok_later_start F 
    have a_late_leaf : Cal l.prog w K mg base 1 "late_leaf" spLate [] := cal_of D_late_leaf fun _ _ F => ok_late_leaf F T
    have a_jobs_from : Cal l.prog w K mg base 8 "jobs_from" (spFrom [((He.cT K pD).2, qF)]) [] := ⟨_, _, _, [], ok_jobs_from FC TA (List.mem_cons_self ..) HUA T a_end_of, g_jobs_from, F_jobs_from.kp, F_jobs_from.binds fun _ _ _ _ _ _ us hl => match us, hl with | [_, _], _ => rfl, .nil⟩
    have a_jobs_within : Cal l.prog w K mg base 2 "jobs_within" spWithin [] := cal_of D_jobs_within fun _ _ F => ok_jobs_within F T a_end_of
    have a_load_leaf : Cal l.prog w K mg base 9 "load_leaf" (spLoadX [((He.cT K pD).2, qF)]) [] := cal_of D_load_leaf fun _ _ F => ok_load_leafX F T a_jobs_from a_work_of a_end_of a_jobs_within
    have a_late_starts : Cal l.prog w K mg base 2 "late_starts" spLateS [] := cal_of D_late_starts fun _ _ F => ok_late_starts F T a_later_start
    have a_load_start : Cal l.prog w K mg base 3 "_load_start" spLS [] := cal_of D_load_start fun _ _ F => ok_load_start F T a_jobs_within
    have a_load_starts : Cal l.prog w K mg base 9 "load_starts" (spLoadS [((He.cT K pD).2, qF)]) [] := cal_of D_load_starts fun _ _ F => ok_load_starts F T a_jobs_from a_work_of a_end_of a_later_start a_load_start
    have a_bench_leaf : Cal l.prog w K mg base 10 "bench_leaf" (spLeaf [((He.cT K pD).2, qF)]) [] := cal_of D_bench_leaf fun _ _ F => ok_bench_leaf F a_late_leaf a_load_leaf
    have a_bench_starts : Cal l.prog w K mg base 10 "bench_starts" (spStarts [((He.cT K pD).2, qF)]) [] := cal_of D_bench_starts fun _ _ F => ok_bench_starts F T a_late_starts a_load_starts a_later_start
    have a_draws_of_starts : Cal l.prog w K mg base 2 "draws_of_starts" spDrs [] := cal_of D_draws_of_starts fun _ _ F => ok_draws_of_starts F T a_jobs_of a_leaf_backwards
    have a_bench_draws : Cal l.prog w K mg base 11 "bench_draws" (spDraws (He.ga K "Task") [((He.cT K pD).2, qF)]) [] := cal_of D_bench_draws fun _ _ F => ok_bench_draws F CCt a_job_windows a_size_of a_bench_leaf a_bench_starts a_backwards a_draws_of_starts
    have k_bench_draws_box_task_k : CalK l.prog w K mg base 11 "bench_draws" ["box", "task", "k"] turn3 (spDraws (He.ga K "Task") [((He.cT K pD).2, qF)]) := mkT3 F_bench_draws (ok_bench_draws F_bench_draws CCt a_job_windows a_size_of a_bench_leaf a_bench_starts a_backwards a_draws_of_starts) h0 g_bench_draws fun _ _ _ _ _ _ _ _ _ => rfl
    have a_Ldraw : Cal l.prog w K mg base 1 "_law_draw" spDraw [] := cal_of D_Ldraw fun _ _ F => ok_draw F T
    have a_Lheap : Cal l.prog w K mg base 1 "_law_heap" (spHeap K) [] := cal_of D_Lheap fun _ _ F => ok_heap F T
    have a_Lpick : Cal l.prog w K mg base 2 "_law_pick" spPickL [] := cal_of D_Lpick fun _ _ F => ok_pickL F T a_Ldraw
    have a_Ltask : Cal l.prog w K mg base 10 "_law_task" (spLTask (He.ga K "Task")) [] := cal_of D_Ltask fun _ _ F => ok_Ltask F T a_Ldraw a_Lpick mkT
    have a_Lwithin : Cal l.prog w K mg base 1 "_law_within" spWiL [] := cal_of D_Lwithin fun _ _ F => ok_Lwithin F T
    have a_Lwork : Cal l.prog w K mg base 1 "_law_work" (spWkL K) [] := cal_of D_Lwork fun _ _ F => ok_Lwork F T
    have a_Llate : Cal l.prog w K mg base 1 "_law_late" spLtL [] := cal_of D_Llate fun _ _ F => ok_Llate F T
    have a_Lsure : Cal l.prog w K mg base 1 "_law_sure" spSuL [] := cal_of D_Lsure fun _ _ F => ok_Lsure F T
    have a_Lshown : Cal l.prog w K mg base 2 "_law_shown" spShL [] := cal_of D_Lshown fun _ _ F => ok_Lshown F T a_Llate a_Lwork a_Lwithin a_Lsure
    have a_Lchanged : Cal l.prog w K mg base 1 "_law_changed" spChL [] := cal_of D_Lchanged fun _ _ F => ok_Lchanged F T
    have a_Lis_lot : Cal l.prog w K mg base 1 "_law_is_lot" spLotL [] := cal_of D_Lis_lot fun _ _ F => ok_Lis_lot F T
    have a_Lfarthest : Cal l.prog w K mg base 3 "_law_farthest" spFaL [] := cal_of D_Lfarthest fun _ _ F => ok_Lfarthest F T a_Lshown a_Lchanged
    have a_Lwindows : Cal l.prog w K mg base 1 "_law_windows" spLWin [] := cal_of D_Lwindows fun _ _ F => ok_Lwindows F T
    have a_load_holds : Cal l.prog w K mg base 5 "_load_holds" (spLdH (He.ga K "Task")) [] := cal_of D_load_holds fun _ _ F => ok_load_holds F T CCt a_job_windows a_is_integers a_is_lot_of_places a_end_of a_work_of a_size_of
    have a_late_holds : Cal l.prog w K mg base 4 "_late_holds" (spLtH (He.ga K "Task")) [] := cal_of D_late_holds fun _ _ F => ok_late_holds F T CCt a_job_windows a_is_lot_of_places a_size_of
    have LS : LfT l.prog w K mg base (He.ga K "Task") (He.ga K "LEAF_TESTS") (He.ga K "LEAF_ITEMS") (He.ga K "LEAF_KINDS") es2 nn2 :=
      ⟨⟨_, g_LEAF_TESTS, rfl⟩, ⟨_, g_LEAF_ITEMS, rfl⟩, ⟨_, g_LEAF_KINDS, rfl⟩, kd2,
        ⟨aP, He.ga K "_late_holds", ⟨_, _, v2, kd2.at_, kd2.lit, i2, w2⟩, ⟨_, _, v3, kd3.at_, kd3.lit, i3, w3⟩, ⟨_, _, _, kd4.at_, kd4.lit, eP, rfl⟩, sP, ⟨_, _, (late_T (ok_late_holds F_late_holds T CCt a_job_windows a_is_lot_of_places a_size_of)).mono (by decide), F_late_holds.kp, F_late_holds.binds fun _ _ _ _ _ _ us hl => match us, hl with | [_, _, _], _ => rfl⟩⟩,
        ⟨aQ, He.ga K "_load_holds", ⟨_, _, v0, kd2.at_, kd2.lit, i0, w0⟩, ⟨_, _, v1, kd3.at_, kd3.lit, i1, w1⟩, ⟨_, _, _, kd4.at_, kd4.lit, eQ, rfl⟩, sQ, ⟨_, _, (load_T (ok_load_holds F_load_holds T CCt a_job_windows a_is_integers a_is_lot_of_places a_end_of a_work_of a_size_of)).mono (by decide), F_load_holds.kp, F_load_holds.binds fun _ _ _ _ _ _ us hl => match us, hl with | [_, _, _], _ => rfl⟩⟩⟩
    have a_leaf_holds : Cal l.prog w K mg base 6 "leaf_holds" (spLfH (He.ga K "Task")) [] := cal_of D_leaf_holds fun _ _ F => ok_leaf_holds F T CCt LS a_is_whole
    have a_Lleaf_right : CalG l.prog w K mg base 2 "_law_leaf_right" spLfR := ⟨_, _, _, ok_Lleaf_right F_Lleaf_right T a_Lis_lot a_Llate a_Lwithin a_Lwork a_Lsure, g_Lleaf_right, F_Lleaf_right.kp, F_Lleaf_right.binds fun _ _ _ _ _ _ us hl => match us, hl with | [_, _, _, _, _], _ => rfl⟩
    have a_Ldrawn_right : CalG l.prog w K mg base 7 "_law_drawn_right" (spDrR (He.ga K "Task")) := ⟨_, _, _, ok_Ldrawn_right F_Ldrawn_right T CCt a_Lwindows a_Lshown a_Lleaf_right a_leaf_holds a_Lfarthest a_Lchanged, g_Ldrawn_right, F_Ldrawn_right.kp, F_Ldrawn_right.binds fun _ _ _ _ _ _ us hl => match us, hl with | [_, _, _, _, _], _ => rfl⟩
    have a_Lkeeps : Cal l.prog w K mg base 1 "_law_keeps" spKeepsT [] := cal_of D_Lkeeps fun _ _ F => ok_Lkeeps F T
    have a_Lall_starts : Cal l.prog w K mg base 1 "_law_all_starts" spAll [] := cal_of D_Lall_starts fun _ _ F => ok_Lall_starts F T
    have a_Lnone_lost : Cal l.prog w K mg base 2 "_law_none_lost" (spNoL (He.ga K "Task")) [] := cal_of D_Lnone_lost fun _ _ F => ok_Lnone_lost F T CCt a_Lwindows a_Lall_starts a_Lkeeps
    have a_Lworld_right : CalG l.prog w K mg base 12 "_law_world_right" (spWoR [((He.cT K pD).2, qF)]) := ⟨_, _, _, ok_Lworld_right F_Lworld_right T CCt a_Ltask a_bench_draws a_Ldrawn_right a_Lnone_lost k_bench_draws_box_task_k, g_Lworld_right, F_Lworld_right.kp, F_Lworld_right.binds fun _ _ _ _ _ _ us hl => match us, hl with | [_, _], _ => rfl⟩
    have LC : LawC l.prog w K mg base (He.ga K "Task") [((He.cT K pD).2, qF)] := ⟨a_Lheap, a_Lworld_right, mkT, a_bench_draws, a_Ldrawn_right⟩
    exact ok_law F_law T CCt LC
end M60

/-! The head's facts over a told list of places, run by the kernel in parts. -/
namespace HkY
open PySem PySem.Spec PyProof.Rows L2 He
def obsY (as : List Addr) (fa : List Fa) (fn : List DefD) (ts : List Tab) (tf : List Defn) (ex : PySem.W.Frag → Bool) (g : Addr → Option Obj) : AlX := (obsT fa fn ts (frT g as), ex (frT g as) && tabsB g tf (frT g as))
theorem saysY_of {as : List Addr} {fa : List Fa} {fn : List DefD} {ts : List Tab} {tf : List Defn} {ex : PySem.W.Frag → Bool} {w : World} {h : Heap} (e : obsY as fa fn ts tf ex h.get? = valX fn ts w) : SaysX fa fn ts tf ex w h (frT h.get? as) := by
  have e1 : obsT fa fn ts (frT h.get? as) = valT fn ts w := congrArg (fun z : AlX => z.1) e
  have e2 : (ex (frT h.get? as) && tabsB h.get? tf (frT h.get? as)) = true := congrArg (fun z : AlX => z.2) e
  obtain ⟨h1, h2⟩ := ba e2
  have key : ∀ p ∈ tf, PySem.W.codeHdIn (frT h.get? as) (cT (frT h.get? as) p).1 (cT (frT h.get? as) p).2 = true ∧ ∃ o, h.get? (cT (frT h.get? as) p).2 = some o ∧ emptyTab o = true := fun p hp => by
    obtain ⟨h3, h4⟩ := ba (List.all_eq_true.mp h2 p hp)
    refine ⟨h3, ?_⟩
    cases q : h.get? (cT (frT h.get? as) p).2 with
    | none =>
      rw [q] at h4
      cases h4
    | some o =>
      rw [q] at h4
      exact ⟨o, rfl, h4⟩
  exact ⟨e1, h1, fun p hp => (key p hp).1, fun p hp => by
    obtain ⟨_, o, q, z⟩ := key p hp
    exact frT_none q z, fun p hp => by
    obtain ⟨_, o, q, z⟩ := key p hp
    rw [q, emptyTab_eq z]⟩
def hookY (as : List Addr) (fa : List Fa) (fn : List DefD) (ts : List Tab) (tf : List Defn) (ex : PySem.W.Frag → Bool) : PySem.W.Hook where
  α := AlX
  obs := fun s => obsY as fa fn ts tf ex s.heap.get?
  val := fun w => valX fn ts w
  says := fun w h => ∃ K : PySem.W.Frag, K.In h ∧ SaysX fa fn ts tf ex w h K
  of := fun _ _ e => ⟨_, frT_in, saysY_of e⟩
  keeps := fun _ _ _ ⟨K, hK, c⟩ k => ⟨K, PySem.W.Frag.In.keeps hK k, ⟨c.t, c.more, c.hd, c.out, fun p hp => k _ _ (c.empty p hp)⟩⟩
theorem obsY_eq {as : List Addr} {fa : List Fa} {fn : List DefD} {ts : List Tab} {tf : List Defn} {ex : PySem.W.Frag → Bool} {g : Addr → Option Obj} {s : Shared} (h : ∀ a, g a = s.heap.get? a) : obsY as fa fn ts tf ex g = (hookY as fa fn ts tf ex).obs s := by
  have e : g = s.heap.get? := funext h
  rw [e] <;> rfl
/-- parts of what is seen of one run -/
theorem map2 {α β γ : Type} {o : Option α} {f : α → β} {g : α → γ} {b : β} {c : γ} (h1 : o.map f = some b) (h2 : o.map g = some c) : o.map (fun x => (f x, g x)) = some (b, c) := by
  cases o with
  | none => cases h1
  | some x =>
    have e1 : f x = b := Option.some.inj h1
    have e2 : g x = c := Option.some.inj h2
    show some (f x, g x) = _
    rw [e1, e2]
theorem map3 {α β γ δ : Type} {o : Option α} {f : α → β} {g : α → γ} {k : α → δ} {b : β} {c : γ} {d : δ} (h1 : o.map f = some b) (h2 : o.map g = some c) (h3 : o.map k = some d) : o.map (fun x => (f x, g x, k x)) = some (b, c, d) := map2 h1 (map2 h2 h3)
end HkY
namespace HkY
theorem map3p {α β γ δ : Type} {o : Option α} {f : α → β} {g : α → γ} {k : α → δ} {b : β} {c : γ} {d : δ} (h : o.map (fun x => (f x, g x)) = some (b, c)) (h3 : o.map k = some d) : o.map (fun x => (f x, g x, k x)) = some (b, c, d) := by
  cases o with
  | none => cases h
  | some x =>
    have e := Option.some.inj h
    have e1 : f x = b := congrArg Prod.fst e
    have e2 : g x = c := congrArg Prod.snd e
    have e3 : k x = d := Option.some.inj h3
    show some (f x, g x, k x) = _
    rw [e1, e2, e3]
end HkY

namespace M60
open PySem PySem.W PySem.Calls PyProof.Rows
abbrev RR : OpenRow := OpenLaw.row PySem.Challenge.rw_paperbest_k60_whole_draws_of_benches
def loose0 : List PySem.Str := ["__name__", "TaskError", "InvalidTask", "InvalidPaper", "InvalidNumber", "jobs_of", "size_of", "job_windows", "end_of", "work_of", "backwards", "leaf_backwards"]
def loose1 : List PySem.Str := ["late_leaf", "load_leaf", "jobs_from", "jobs_within", "late_starts", "load_starts", "_load_start", "later_start", "bench_leaf", "bench_starts", "draws_of_starts", "bench_draws"]
def loose2 : List PySem.Str := ["is_whole", "fraction_of", "whole", "is_fraction", "added", "timed", "ceiling_of", "job_spans", "needs_over_time", "total_of", "LETTERS", "MOST_SUMS"]
def loose3 : List PySem.Str := ["is_wish", "is_lot_of_places", "is_places", "is_integers", "_is_sum", "_is_unlike", "_is_table", "_is_either", "_is_bench", "_is_room", "_is_jobs", "WISH_TESTS"]
def loose4 : List PySem.Str := ["named_by", "WORDS", "LONGEST_NAME", "Task", "is_name", "is_pair", "_is_unknown", "_check_unknowns", "_check_wishes", "_check_goal", "keeps_wish", "_keeps_sum"]
def loose5 : List PySem.Str := ["_keeps_unlike", "_keeps_table", "_keeps_either", "_keeps_jobs", "_keeps_round", "KEEPERS", "END_WORDS", "NO", "summed", "row_behind", "check_multipliers", "are_multipliers"]
def loose6 : List PySem.Str := ["_is_pair", "_is_key", "leaf_holds", "_sum_leaf_holds", "_crowd_holds", "_out_holds", "_shut_holds", "top_of", "_late_holds", "_load_holds", "_full_holds", "_ring_holds"]
def loose7 : List PySem.Str := ["_broken_holds", "LEAF_TESTS", "LEAF_ITEMS", "LEAF_KINDS", "_law_heap", "_law_draw", "_law_pick", "_law_task", "_law_windows", "_law_within", "_law_work", "_law_late"]
def loose8 : List PySem.Str := ["_law_sure", "_law_shown", "_law_is_lot", "_law_leaf_right", "_law_changed", "_law_farthest", "_law_drawn_right", "_law_keeps", "_law_all_starts", "_law_none_lost", "_law_world_right"]
def loose : List PySem.Str := loose0 ++ loose1 ++ loose2 ++ loose3 ++ loose4 ++ loose5 ++ loose6 ++ loose7 ++ loose8
def places0 : List Addr := [3, 0, 6, 51, 71, 90, 109, 361, 390, 477, 585, 586, 587, 52, 72, 91, 110, 391, 4, 53, 392, 393, 69, 88, 107, 117, 124, 129, 136, 143, 148, 155, 162, 167, 172, 177, 184, 189, 196, 203, 210, 215, 222, 229, 236, 243, 250, 257, 264, 271, 278, 283, 290, 297, 304, 309, 314, 319, 324, 331, 336, 343, 350, 355, 360, 366, 381, 388, 400, 407, 414, 421, 428, 435, 442, 449, 454, 459, 464, 469, 476, 486, 493, 500, 507, 514, 521, 528, 533, 540, 545, 550, 557, 564, 569, 574, 579, 584, 600, 607]
def places1 : List Addr := [614, 619, 624, 629, 634, 641, 646, 651, 658, 663, 670, 677, 682, 687, 692, 697, 704, 709, 68, 87, 106, 116, 123, 128, 135, 142, 147, 154, 161, 166, 171, 176, 183, 188, 195, 202, 209, 214, 221, 228, 235, 242, 249, 256, 263, 270, 277, 282, 289, 296, 303, 308, 313, 318, 323, 330, 335, 342, 349, 354, 359, 365, 380, 387, 399, 406, 413, 420, 427, 434, 441, 448, 453, 458, 463, 468, 475, 485, 492, 499, 506, 513, 520, 527, 532, 539, 544, 549, 556, 563, 568, 573, 578, 583, 599, 606, 613, 618, 623, 628]
def places2 : List Addr := [633, 640, 645, 650, 657, 662, 669, 676, 681, 686, 691, 696, 703, 708, 50, 63, 65, 66, 70, 82, 84, 85, 89, 101, 103, 104, 108, 113, 118, 120, 121, 125, 130, 132, 133, 137, 139, 140, 144, 149, 151, 152, 156, 158, 159, 163, 168, 173, 178, 180, 181, 185, 190, 192, 193, 197, 199, 200, 204, 206, 207, 211, 216, 218, 219, 223, 225, 226, 230, 232, 233, 237, 239, 240, 244, 246, 247, 251, 253, 254, 258, 260, 261, 265, 267, 268, 272, 274, 275, 279, 284, 286, 287, 291, 293, 294, 298, 300, 301, 305]
def places3 : List Addr := [310, 315, 320, 325, 327, 328, 332, 337, 339, 340, 344, 346, 347, 351, 356, 362, 367, 375, 377, 378, 382, 384, 385, 389, 396, 401, 403, 404, 408, 410, 411, 415, 417, 418, 422, 424, 425, 429, 431, 432, 436, 438, 439, 443, 445, 446, 450, 455, 460, 465, 470, 472, 473, 478, 479, 480, 482, 483, 487, 489, 490, 494, 496, 497, 501, 503, 504, 508, 510, 511, 515, 517, 518, 522, 524, 525, 529, 534, 536, 537, 541, 546, 551, 553, 554, 558, 560, 561, 565, 570, 575, 580, 588, 589, 590, 591, 592, 593, 594, 595]
def places4 : List Addr := [596, 601, 603, 604, 608, 610, 611, 615, 620, 625, 630, 635, 637, 638, 642, 647, 652, 654, 655, 659, 664, 666, 667, 671, 673, 674, 678, 683, 688, 693, 698, 700, 701, 705, 67, 86, 105, 115, 122, 127, 134, 141, 146, 153, 160, 165, 170, 175, 182, 187, 194, 201, 208, 213, 220, 227, 234, 241, 248, 255, 262, 269, 276, 281, 288, 295, 302, 307, 312, 317, 322, 329, 334, 341, 348, 353, 358, 364, 379, 386, 398, 405, 412, 419, 426, 433, 440, 447, 452, 457, 462, 467, 474, 484, 491, 498, 505, 512, 519, 526]
def places5 : List Addr := [531, 538, 543, 548, 555, 562, 567, 572, 577, 582, 598, 605, 612, 617, 622, 627, 632, 639, 644, 649, 656, 661, 668, 675, 680, 685, 690, 695, 702, 707]
def places : List Addr := places0 ++ places1 ++ places2 ++ places3 ++ places4 ++ places5
abbrev hk : Hook := HkY.hookY places faL fnL tsL tfL exB
def ob (s : SharedT) : He.AlX := HkY.obsY places faL fnL tsL tfL exB (HandSHeadRun.getT s)
theorem ob_eq (s : SharedT) : ob s = hk.obs s.abs := HkY.obsY_eq (HandSHeadRun.getT_eq s)
noncomputable abbrev runR (w : World) := HandSHeadRun.wholeF (fun p => HandSHeadRun.stepQ (HandSHeadRun.denQ HandSHeadRun.tabQ) p w) HandSHeadRun.fenceQ 20000 RR.prog
noncomputable abbrev seenR (x : Shared × SharedT) := HandSHeadRun.seenQ (view RR.prog [0, 118]) loose (importedModules RR.prog.main.body) (fun s => xlAt (view RR.prog [0, 118]) [] s && recOk RR.toRowW.records s) x.2.abs
theorem see0 (w : World) : (runR (w.withFollow "special-get-raises" false)).map (fun x => (HandSHeadRun.looksF RR.prog x.1.heap x.2.abs, seenR x)) = some (true, openGood (view RR.prog [0, 118]) loose) := by kernel_rfl
theorem see1 (w : World) : (runR (w.withFollow "special-get-raises" true)).map (fun x => (HandSHeadRun.looksF RR.prog x.1.heap x.2.abs, seenR x)) = some (true, openGood (view RR.prog [0, 118]) loose) := by kernel_rfl
theorem obs0 (w : World) : (runR (w.withFollow "special-get-raises" false)).map (fun x => ob x.2) = some (hk.val (w.withFollow "special-get-raises" false)) := by kernel_rfl
theorem obs1 (w : World) : (runR (w.withFollow "special-get-raises" true)).map (fun x => ob x.2) = some (hk.val (w.withFollow "special-get-raises" true)) := by kernel_rfl
theorem run0 (w : World) : HandSHeadRun.RunEqI RR (view RR.prog [0, 118]) hk ob 20000 loose (w.withFollow "special-get-raises" false) := HkY.map3p (see0 w) (obs0 w)
theorem run1 (w : World) : HandSHeadRun.RunEqI RR (view RR.prog [0, 118]) hk ob 20000 loose (w.withFollow "special-get-raises" true) := HkY.map3p (see1 w) (obs1 w)
theorem run (w : World) : HandSHeadRun.RunEqI RR (view RR.prog [0, 118]) hk ob 20000 loose w := by
  have e := World.withFollow_self w "special-get-raises"
  cases hb : w.params.followText "special-get-raises" with
  | false => rw [hb] at e; exact e ▸ run0 w
  | true => rw [hb] at e; exact e ▸ run1 w
end M60
open PySem PySem.W PySem.Calls PyProof.Rows
set_option maxHeartbeats 0 in
theorem PySem.Challenge.cw_paperbest_k60_whole_draws_of_benches_holds : PySem.Challenge.rw_paperbest_k60_whole_draws_of_benches.Holds := by
  w_on; o_law
  refine HandSHeadRun.head_imp (r := M60.RR) (q := view M60.RR.prog [0, 118]) (H := M60.hk) (ob := M60.ob) (M := 20000) (loose := M60.loose) (d := HandSHeadRun.topDef M60.RR.prog 118) (kwd := []) M60.ob_eq
    M60.run (by kernel_rfl) (by kernel_rfl) (by kernel_rfl) (by rfl) (by first | assumption | decide +kernel) (by decide +kernel) ⟨rfl, rfl, rfl, rfl, rfl, by decide +kernel⟩ ?hw ?hc
  case hw => w_witness2
  case hc =>
    refine Gd.walk_ofG (l := PySem.Challenge.rw_paperbest_k60_whole_draws_of_benches) (n := 63) (k := 13) (x := "script") rfl (by decide) (by kernel_rfl) ⟨rfl, by decide, by decide⟩ ?F
    intro w mg fa h Y G hmg0
    obtain ⟨K, KX, c⟩ := Y
    have hmg : mg ("law" : PySem.Str) = some (.ref fa) := by
      have e : (HandSHeadRun.topDef M60.RR.prog 118).name = ("law" : PySem.Str) := by kernel_rfl
      rw [← e]
      exact hmg0
    exact ⟨K, KX, M60.facts KX G hmg c⟩
