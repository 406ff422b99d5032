import PyProof.Rows.All
import Wide.All
import OpenK.AllK
import Wide.FinOn
import HandS.ForMost
import HandS.Exc
import HandS.WordsExc
import HandS.Codes
import HandS.IsInst
import HandS.Style
import HandS.TupAny
import HandS.TupLe
import HandS.Gcd
import HandS.Zip
import HandS.Deep
import HandS.Wide
import HandS.WideBits
import HandS.ExcInit
import HandS.ExcField
import HandS.TryMany
import HandS.Lambda
import HandS.EndTab
import KE.KExcIs
import PySem.Challenge.RW_paperbest_k02_whole_fractions
import KE.KStateDown
import HandS.Defaults
import HandS.Head0
import HandS.Head1
import HandS.Head2
import HandS.Head3
import HandS.HeadEnd
import HandS.HeadHook1
import HandS.HeadHook2
import HandS.HeadHook3
import HandS.HeadHook4
import HandS.HeadWalk
set_option Elab.async false
set_option linter.all false
set_option maxRecDepth 100000
set_option maxHeartbeats 8000000
namespace M02
abbrev Q := Int × Int
def frac (t b : Int) : Q :=
  (t.fdiv (if b < 0 then -((Nat.gcd t.natAbs b.natAbs : Nat) : Int) else ((Nat.gcd t.natAbs b.natAbs : Nat) : Int)), b.fdiv (if b < 0 then -((Nat.gcd t.natAbs b.natAbs : Nat) : Int) else ((Nat.gcd t.natAbs b.natAbs : Nat) : Int)))
/-- in lowest terms -/
structure Fr (q : Q) : Prop where
  pos : 0 < q.2
  co : Nat.gcd q.1.natAbs q.2.natAbs = 1
theorem fdiv_dvd {a g : Int} (h : g ∣ a) : a.fdiv g * g = a := by
  by_cases hg : g = 0
  · subst hg; obtain ⟨c, rfl⟩ := h; simp
  · obtain ⟨c, rfl⟩ := h
    rw [Int.mul_fdiv_cancel_left _ hg, Int.mul_comm]
theorem frac_mul (t b : Int) (hb : b ≠ 0) : ∃ g : Int, g ≠ 0 ∧ (frac t b).1 * g = t ∧ (frac t b).2 * g = b ∧ g.natAbs = Nat.gcd t.natAbs b.natAbs ∧ (0 < b → 0 < g) ∧ (b < 0 → g < 0) := by
  have gp : 0 < Nat.gcd t.natAbs b.natAbs := Nat.gcd_pos_of_pos_right _ (by omega)
  have d1 : ((Nat.gcd t.natAbs b.natAbs : Nat) : Int) ∣ t := Int.ofNat_dvd_left.mpr (Nat.gcd_dvd_left _ _)
  have d2 : ((Nat.gcd t.natAbs b.natAbs : Nat) : Int) ∣ b := Int.ofNat_dvd_left.mpr (Nat.gcd_dvd_right _ _)
  unfold frac
  by_cases h : b < 0
  · rw [if_pos h]
    exact ⟨_, by omega, fdiv_dvd (Int.neg_dvd.mpr d1), fdiv_dvd (Int.neg_dvd.mpr d2), by omega, by omega, by omega⟩
  · rw [if_neg h]
    exact ⟨_, by omega, fdiv_dvd d1, fdiv_dvd d2, by omega, by omega, by omega⟩
theorem frac_fr (t b : Int) (hb : b ≠ 0) : Fr (frac t b) := by
  obtain ⟨g, g0, h1, h2, h3, h4, h5⟩ := frac_mul t b hb
  constructor
  · rcases Int.lt_or_gt_of_ne hb with c | c
    · have := h5 c
      rcases Int.lt_trichotomy (frac t b).2 0 with z | z | z
      · have := Int.mul_pos_of_neg_of_neg z (h5 c); omega
      · rw [z] at h2; omega
      · exact z
    · have := h4 c
      rcases Int.lt_trichotomy (frac t b).2 0 with z | z | z
      · have := Int.mul_neg_of_neg_of_pos z (h4 c); omega
      · rw [z] at h2; omega
      · exact z
  · have e1 : t.natAbs = (frac t b).1.natAbs * g.natAbs := by rw [← Int.natAbs_mul, h1]
    have e2 : b.natAbs = (frac t b).2.natAbs * g.natAbs := by rw [← Int.natAbs_mul, h2]
    have e3 := h3
    rw [e1, e2, Nat.gcd_mul_right] at e3
    have gp : 0 < g.natAbs := by omega
    exact Nat.eq_of_mul_eq_mul_right gp (by rw [← e3]; omega)
theorem frac_cross (t b : Int) (hb : b ≠ 0) : (frac t b).1 * b = t * (frac t b).2 := by
  obtain ⟨g, g0, h1, h2, _⟩ := frac_mul t b hb
  generalize frac t b = p at h1 h2 ⊢
  rw [← h1, ← h2]
  ac_rfl
theorem le_mul_nat {a b : Nat} (h : 0 < b) : a ≤ a * b := Nat.le_mul_of_pos_right a h
theorem frac_le (t b : Int) (hb : b ≠ 0) : (frac t b).1.natAbs ≤ t.natAbs ∧ (frac t b).2.natAbs ≤ b.natAbs := by
  obtain ⟨g, g0, h1, h2, _⟩ := frac_mul t b hb
  constructor
  · conv => rhs; rw [← h1, Int.natAbs_mul]
    exact le_mul_nat (by omega)
  · conv => rhs; rw [← h2, Int.natAbs_mul]
    exact le_mul_nat (by omega)
theorem fr_uniq {p q : Q} (hp : Fr p) (hq : Fr q) (h : p.1 * q.2 = q.1 * p.2) : p = q := by
  have hn : p.1.natAbs * q.2.natAbs = q.1.natAbs * p.2.natAbs := by rw [← Int.natAbs_mul, ← Int.natAbs_mul, h]
  have d1 : p.2.natAbs ∣ q.2.natAbs := (Nat.Coprime.symm (show Nat.Coprime p.1.natAbs p.2.natAbs from hp.co)).dvd_of_dvd_mul_left ⟨q.1.natAbs, by rw [hn, Nat.mul_comm]⟩
  have d2 : q.2.natAbs ∣ p.2.natAbs := (Nat.Coprime.symm (show Nat.Coprime q.1.natAbs q.2.natAbs from hq.co)).dvd_of_dvd_mul_left ⟨p.1.natAbs, by rw [← hn, Nat.mul_comm]⟩
  have e := Nat.dvd_antisymm d1 d2
  have a := hp.pos; have b := hq.pos
  have e2 : p.2 = q.2 := by omega
  have e1 : p.1 = q.1 := by
    rw [e2] at h
    exact Int.eq_of_mul_eq_mul_right (by omega) h
  exact Prod.ext e1 e2
theorem frac_is {t b : Int} {q : Q} (hb : b ≠ 0) (hq : Fr q) (h : t * q.2 = q.1 * b) : frac t b = q := by
  refine fr_uniq (frac_fr t b hb) hq ?_
  have c := frac_cross t b hb
  refine Int.eq_of_mul_eq_mul_right hb ?_
  calc (frac t b).1 * q.2 * b = (frac t b).1 * b * q.2 := by rw [Int.mul_assoc, Int.mul_comm q.2, ← Int.mul_assoc]
    _ = t * (frac t b).2 * q.2 := by rw [c]
    _ = t * q.2 * (frac t b).2 := by rw [Int.mul_assoc, Int.mul_comm (frac t b).2, ← Int.mul_assoc]
    _ = q.1 * b * (frac t b).2 := by rw [h]
    _ = q.1 * (frac t b).2 * b := by rw [Int.mul_assoc, Int.mul_comm b, ← Int.mul_assoc]
theorem frac_congr {t b t' b' : Int} (hb : b ≠ 0) (hb' : b' ≠ 0) (h : t * b' = t' * b) : frac t b = frac t' b' := by
  refine frac_is hb (frac_fr t' b' hb') ?_
  have c := frac_cross t' b' hb'
  refine Int.eq_of_mul_eq_mul_right hb' ?_
  calc t * (frac t' b').2 * b' = t * b' * (frac t' b').2 := by rw [Int.mul_assoc, Int.mul_comm (frac t' b').2, ← Int.mul_assoc]
    _ = t' * b * (frac t' b').2 := by rw [h]
    _ = t' * (frac t' b').2 * b := by rw [Int.mul_assoc, Int.mul_comm b, ← Int.mul_assoc]
    _ = (frac t' b').1 * b' * b := by rw [c]
    _ = (frac t' b').1 * b * b' := by rw [Int.mul_assoc, Int.mul_comm b', ← Int.mul_assoc]
/-! ### order -/
def leQ (p q : Q) : Prop := p.1 * q.2 ≤ q.1 * p.2
theorem leQ_refl (p : Q) : leQ p p := Int.le_refl _
theorem leQ_trans {p q r : Q} (hp : 0 < p.2) (hq : 0 < q.2) (hr : 0 < r.2) (h1 : leQ p q) (h2 : leQ q r) : leQ p r := by
  unfold leQ at *
  have a := Int.mul_le_mul_of_nonneg_right h1 (Int.le_of_lt hr)
  have b := Int.mul_le_mul_of_nonneg_right h2 (Int.le_of_lt hp)
  refine Int.le_of_mul_le_mul_right (a := q.2) ?_ hq
  calc p.1 * r.2 * q.2 = p.1 * q.2 * r.2 := by rw [Int.mul_assoc, Int.mul_comm r.2, ← Int.mul_assoc]
    _ ≤ q.1 * p.2 * r.2 := a
    _ = q.1 * r.2 * p.2 := by rw [Int.mul_assoc, Int.mul_comm p.2, ← Int.mul_assoc]
    _ ≤ r.1 * q.2 * p.2 := b
    _ = r.1 * p.2 * q.2 := by rw [Int.mul_assoc, Int.mul_comm q.2, ← Int.mul_assoc]
theorem leQ_total (p q : Q) : leQ p q ∨ leQ q p := Int.le_total _ _
/-! ### Euclid -/
theorem gcd_step (a b : Nat) : Nat.gcd b (a % b) = Nat.gcd a b := by rw [Nat.gcd_comm a b, Nat.gcd_rec b a, Nat.gcd_comm]
/-- the divisor of all -/
def gcds (f : Nat) (l : List Int) : Nat := l.foldl (fun f x => Nat.gcd f x.natAbs) f
/-! ### rounding -/
theorem low_le (t b : Int) (h : 0 < b) : t / b * b ≤ t := Int.ediv_mul_le _ (by omega)
theorem low_gt (t b : Int) (h : 0 < b) : t < (t / b + 1) * b := Int.lt_ediv_add_one_mul_self _ h
theorem high_ge (t b : Int) (h : 0 < b) : t ≤ -(-t / b) * b := by
  have := low_le (-t) b h
  rw [Int.neg_mul]; omega
theorem high_lt (t b : Int) (h : 0 < b) : (-(-t / b) - 1) * b < t := by
  have := low_gt (-t) b h
  rw [Int.sub_mul, Int.neg_mul]
  rw [Int.add_mul] at this; omega
theorem low_high {q : Q} (f : Fr q) : (q.1 / q.2 = -(-q.1 / q.2)) ↔ q.2 = 1 := by
  have p := f.pos
  constructor
  · intro h
    have a := low_le q.1 q.2 p
    have b := high_ge q.1 q.2 p
    rw [← h] at b
    have e : q.1 / q.2 * q.2 = q.1 := by omega
    have d : q.2.natAbs ∣ q.1.natAbs := ⟨(q.1 / q.2).natAbs, by rw [← Int.natAbs_mul, Int.mul_comm, e]⟩
    have g := Nat.gcd_eq_right d
    rw [f.co] at g; omega
  · intro h
    rw [h]; simp
/-! ### weighed sums -/
/-- one step of the sum: the program's -/
def wst (s : Q) (c : Int) (v : Q) : Q :=
  if c = 0 then s else
  let m : Int := if v.2 = s.2 then 1 else v.2 / ((Nat.gcd s.2.natAbs v.2.natAbs : Nat) : Int)
  (s.1 * m + c * v.1 * (s.2 * m / v.2), s.2 * m)
/-- one step of the sum: the law's -/
def lst (s : Q) (c : Int) (v : Q) : Q := (s.1 * v.2 + c * v.1 * s.2, s.2 * v.2)
def wsum : List (Int × Q) → Q → Q := fun l s => l.foldl (fun s x => wst s x.1 x.2) s
def lsum : List (Int × Q) → Q → Q := fun l s => l.foldl (fun s x => lst s x.1 x.2) s
theorem wst_m {s v : Q} (hs : 0 < s.2) (hv : 0 < v.2) :
    ∃ m : Int, m = (if v.2 = s.2 then 1 else v.2 / ((Nat.gcd s.2.natAbs v.2.natAbs : Nat) : Int)) ∧ 0 < m ∧ m ≤ v.2 ∧ s.2 * m / v.2 * v.2 = s.2 * m := by
  refine ⟨_, rfl, ?_⟩
  by_cases h : v.2 = s.2
  · rw [if_pos h, h]
    refine ⟨by decide, by omega, ?_⟩
    rw [Int.mul_one]; exact Int.ediv_mul_cancel (Int.dvd_refl _)
  · rw [if_neg h]
    have gp : 0 < Nat.gcd s.2.natAbs v.2.natAbs := Nat.gcd_pos_of_pos_right _ (by omega)
    have d2 : ((Nat.gcd s.2.natAbs v.2.natAbs : Nat) : Int) ∣ v.2 := Int.ofNat_dvd_left.mpr (Nat.gcd_dvd_right _ _)
    have d1 : ((Nat.gcd s.2.natAbs v.2.natAbs : Nat) : Int) ∣ s.2 := Int.ofNat_dvd_left.mpr (Nat.gcd_dvd_left _ _)
    generalize hg : ((Nat.gcd s.2.natAbs v.2.natAbs : Nat) : Int) = g at *
    have g0 : 0 < g := by omega
    obtain ⟨c, hc⟩ := d2
    obtain ⟨d, hd⟩ := d1
    have e : v.2 / g = c := by rw [hc]; exact Int.mul_ediv_cancel_left _ (by omega)
    have cp : 0 < c := by
      rcases Int.lt_trichotomy c 0 with z | z | z
      · have := Int.mul_neg_of_pos_of_neg g0 z; omega
      · rw [z] at hc; omega
      · exact z
    rw [e]
    refine ⟨cp, ?_, ?_⟩
    · rw [hc]
      have := Int.mul_le_mul_of_nonneg_right (show (1 : Int) ≤ g by omega) (Int.le_of_lt cp)
      omega
    · refine Int.ediv_mul_cancel ⟨d, ?_⟩
      rw [hc, hd, Int.mul_assoc, Int.mul_assoc, Int.mul_comm d c]
theorem wst_pos {s v : Q} (c : Int) (hs : 0 < s.2) (hv : 0 < v.2) : 0 < (wst s c v).2 := by
  obtain ⟨m, e, m0, _, _⟩ := wst_m hs hv
  unfold wst
  split
  · exact hs
  · show 0 < s.2 * _
    rw [← e]; exact Int.mul_pos hs m0
theorem lst_pos {s v : Q} (c : Int) (hs : 0 < s.2) (hv : 0 < v.2) : 0 < (lst s c v).2 := Int.mul_pos hs hv
theorem wst_lst {s u v : Q} (c : Int) (hs : 0 < s.2) (hv : 0 < v.2) (h : s.1 * u.2 = u.1 * s.2) : (wst s c v).1 * (lst u c v).2 = (lst u c v).1 * (wst s c v).2 := by
  obtain ⟨m, e, m0, _, hk⟩ := wst_m hs hv
  unfold wst lst
  split
  · rename_i z
    subst z
    show s.1 * (u.2 * v.2) = (u.1 * v.2 + 0 * v.1 * u.2) * s.2
    rw [← Int.mul_assoc, h, Int.zero_mul, Int.zero_mul, Int.add_zero, Int.mul_assoc, Int.mul_comm s.2, Int.mul_assoc]
  · show (s.1 * _ + c * v.1 * (s.2 * _ / v.2)) * (u.2 * v.2) = (u.1 * v.2 + c * v.1 * u.2) * (s.2 * _)
    rw [← e]
    generalize s.2 * m / v.2 = k at hk
    rw [Int.add_mul, Int.add_mul, ← hk]
    have a1 : s.1 * m * (u.2 * v.2) = u.1 * v.2 * (k * v.2) := by
      calc s.1 * m * (u.2 * v.2) = s.1 * u.2 * (m * v.2) := by ac_rfl
        _ = u.1 * s.2 * (m * v.2) := by rw [h]
        _ = u.1 * v.2 * (s.2 * m) := by ac_rfl
        _ = u.1 * v.2 * (k * v.2) := by rw [hk]
    have a2 : c * v.1 * k * (u.2 * v.2) = c * v.1 * u.2 * (k * v.2) := by ac_rfl
    rw [a1, a2]
theorem wst_bound {s v : Q} {P : Nat} (c : Int) (hs : 0 < s.2) (hv : 0 < v.2) (b1 : s.1.natAbs ≤ P) (b2 : s.2.natAbs ≤ P) (c1 : c.natAbs < 2 ^ 24) (v1 : v.1.natAbs < 2 ^ 24) (v2 : v.2.natAbs < 2 ^ 24) :
    (wst s c v).1.natAbs ≤ P * 2 ^ 80 ∧ (wst s c v).2.natAbs ≤ P * 2 ^ 80 := by
  obtain ⟨m, e, m0, mv, hk⟩ := wst_m hs hv
  unfold wst
  split
  · exact ⟨Nat.le_trans b1 (Nat.le_mul_of_pos_right _ (by decide)), Nat.le_trans b2 (Nat.le_mul_of_pos_right _ (by decide))⟩
  · show (s.1 * _ + c * v.1 * (s.2 * _ / v.2)).natAbs ≤ _ ∧ (s.2 * _).natAbs ≤ _
    rw [← e]
    have hm : m.natAbs ≤ 2 ^ 24 := by omega
    have h1 : (s.1 * m).natAbs ≤ P * 2 ^ 24 := by rw [Int.natAbs_mul]; exact Nat.mul_le_mul b1 hm
    have h2 : (s.2 * m).natAbs ≤ P * 2 ^ 24 := by rw [Int.natAbs_mul]; exact Nat.mul_le_mul b2 hm
    generalize s.2 * m / v.2 = k at hk
    have h3 : k.natAbs ≤ P * 2 ^ 24 := by
      refine Nat.le_trans ?_ h2
      rw [← hk, Int.natAbs_mul]
      exact Nat.le_mul_of_pos_right _ (by omega)
    have h4 : (c * v.1).natAbs ≤ 2 ^ 24 * 2 ^ 24 := by rw [Int.natAbs_mul]; exact Nat.mul_le_mul (by omega) (by omega)
    have h5 : (c * v.1 * k).natAbs ≤ 2 ^ 24 * 2 ^ 24 * (P * 2 ^ 24) := by rw [Int.natAbs_mul]; exact Nat.mul_le_mul h4 h3
    have h6 := Int.natAbs_add_le (s.1 * m) (c * v.1 * k)
    have e24 : (2 : Nat) ^ 24 = 16777216 := by decide
    have e80 : (2 : Nat) ^ 80 = 1208925819614629174706176 := by decide
    rw [e24] at h1 h2 h5
    rw [e80]
    omega
theorem lst_bound {s v : Q} {P : Nat} (c : Int) (b1 : s.1.natAbs ≤ P) (b2 : s.2.natAbs ≤ P) (c1 : c.natAbs < 2 ^ 24) (v1 : v.1.natAbs < 2 ^ 24) (v2 : v.2.natAbs < 2 ^ 24) :
    (lst s c v).1.natAbs ≤ P * 2 ^ 80 ∧ (lst s c v).2.natAbs ≤ P * 2 ^ 80 := by
  show (s.1 * v.2 + c * v.1 * s.2).natAbs ≤ _ ∧ (s.2 * v.2).natAbs ≤ _
  have h1 : (s.1 * v.2).natAbs ≤ P * 2 ^ 24 := by rw [Int.natAbs_mul]; exact Nat.mul_le_mul b1 (by omega)
  have h2 : (s.2 * v.2).natAbs ≤ P * 2 ^ 24 := by rw [Int.natAbs_mul]; exact Nat.mul_le_mul b2 (by omega)
  have h4 : (c * v.1).natAbs ≤ 2 ^ 24 * 2 ^ 24 := by rw [Int.natAbs_mul]; exact Nat.mul_le_mul (by omega) (by omega)
  have h5 : (c * v.1 * s.2).natAbs ≤ 2 ^ 24 * 2 ^ 24 * P := by rw [Int.natAbs_mul]; exact Nat.mul_le_mul h4 b2
  have h6 := Int.natAbs_add_le (s.1 * v.2) (c * v.1 * s.2)
  have e24 : (2 : Nat) ^ 24 = 16777216 := by decide
  have e80 : (2 : Nat) ^ 80 = 1208925819614629174706176 := by decide
  rw [e24] at h1 h2 h5
  rw [e80]
  omega
theorem wsum_snoc (l : List (Int × Q)) (x : Int × Q) (s : Q) : wsum (l ++ [x]) s = wst (wsum l s) x.1 x.2 := by unfold wsum; rw [List.foldl_append]; rfl
theorem lsum_snoc (l : List (Int × Q)) (x : Int × Q) (s : Q) : lsum (l ++ [x]) s = lst (lsum l s) x.1 x.2 := by unfold lsum; rw [List.foldl_append]; rfl
theorem take_at {α : Type} {l : List α} {i : Nat} {x : α} (h : l[i]? = some x) : l.take (i + 1) = l.take i ++ [x] := by
  rw [List.take_add_one, h]; rfl
theorem zip_at {α β : Type} {l : List α} {r : List β} {i : Nat} {x : α} {y : β} (h1 : l[i]? = some x) (h2 : r[i]? = some y) : (l.zip r)[i]? = some (x, y) := by
  rw [List.getElem?_zip_eq_some]; exact ⟨h1, h2⟩
end M02

namespace M02
open PySem PySem.Spec PyProof.Rows L2
open C8 (Cal pe_c pe_gc pss_cut)
def topS (i : Nat) : Stmt := PySem.Challenge.pw_paperbest_k02_whole_fractions.main.body.getD i (.Pass ⟨0, 0, 0, 0⟩)
/-- the first def within a class of the top -/
def inS (i : Nat) : Stmt := match topS i with
  | .ClassDef _ _ _ b _ _ _ _ _ _ _ => b.getD 0 (.Pass ⟨0, 0, 0, 0⟩)
  | s => s
/-! ### own errors -/
/-- what the text says of an error's class: its name x, its class object at C, its __init__ at fI -/
structure ExT (K : PySem.W.Frag) (mg : Str → Option Value) (x : Str) (C fI : Addr) : Prop where
  oex : OexC K C
  iC : PySem.W.findIn K (.ref C) "__init__" = some (some (.ref fI))
  tI : PySem.W.typeIn K (.ref fI) = some (.type "function")
  gC : mg x = some (.ref C)
  xf : XfC K C
  noW : PySem.W.findIn K (.ref C) "word" = some none
abbrev s_iN : Stmt := inS 3
abbrev s_iR : Stmt := inS 4
theorem sc_iN : FnScope ["self", "word"] ["self", "word"] (defScope s_iN) := ⟨rfl, rfl, rfl, by decide +kernel, rfl, by decide +kernel, by decide +kernel⟩
theorem sc_iR : FnScope ["self", "word"] ["self", "word"] (defScope s_iR) := ⟨rfl, rfl, rfl, by decide +kernel, rfl, by decide +kernel, by decide +kernel⟩
/-- the fresh exception at a gets its word y: its dict stands at d -/
def exoHp (H : Hp) (a C d : Addr) (y : V) : Hp := upd (upd H d (exd d [("word", y)])) a (exo a C (some d))
def spInit (K : PySem.W.Frag) : Sp := fun vs H Q _ => ∃ (a C : Addr) (y : V), vs = [.ref a, y] ∧ OexC K C ∧ PySem.W.findIn K (.ref C) "word" = some none ∧ H a = some (exo a C none) ∧ ∀ d, H d = none → d ≠ a → Q .non (exoHp H a C d y)
section
variable {P : Program} {w : World} {K : PySem.W.Frag} {mg : Str → Option Value} {base : Heap}
theorem ok_iN {f : Addr} {fd : FuncData} (F : Fun K "__init__" "InvalidNumber.__init__" s_iN f fd) : FnOk P w K mg base CX0 1 f fd ["self", "word"] (spInit K) := by
  refine F.ok sc_iN (fun vs H Q E h => ?_) (fun cdv A outer s H vs Q E hr h => ?_)
  · obtain ⟨a, C, y, rfl, _⟩ := h
    rfl
  · obtain ⟨a, C, y, rfl, T, no, e, q⟩ := h
    refine ⟨_, pss_one (ps_ost (pv 0) (pv 1)), ?_⟩
    exact ⟨_, rfl, _, rfl, a, C, rfl, T, no, .inl ⟨e, fun d n ne => q d n ne⟩⟩
theorem ok_iR {f : Addr} {fd : FuncData} (F : Fun K "__init__" "Refused.__init__" s_iR f fd) : FnOk P w K mg base CX0 1 f fd ["self", "word"] (spInit K) := by
  refine F.ok sc_iR (fun vs H Q E h => ?_) (fun cdv A outer s H vs Q E hr h => ?_)
  · obtain ⟨a, C, y, rfl, _⟩ := h
    rfl
  · obtain ⟨a, C, y, rfl, T, no, e, q⟩ := h
    refine ⟨_, pss_one (ps_ost (pv 0) (pv 1)), ?_⟩
    exact ⟨_, rfl, _, rfl, a, C, rfl, T, no, .inl ⟨e, fun d n ne => q d n ne⟩⟩
end
/-- the class x at C with its __init__ -/
structure ExK (P : Program) (w : World) (K : PySem.W.Frag) (mg : Str → Option Value) (base : Heap) (x : Str) (C : Addr) : Prop where
  ex : ∃ (fI : Addr) (fd : FuncData), ExT K mg x C fI ∧ FnOk P w K mg base CX0 1 fI fd ["self", "word"] (spInit K) ∧ Binds K fd ["self", "word"] []
theorem ExK.T {P : Program} {w : World} {K : PySem.W.Frag} {mg : Str → Option Value} {base : Heap} {x : Str} {C : Addr} (c : ExK P w K mg base x C) : ∃ fI, ExT K mg x C fI := by
  obtain ⟨fI, fd, T, _⟩ := c.ex
  exact ⟨fI, T⟩
theorem ExK.oex {P : Program} {w : World} {K : PySem.W.Frag} {mg : Str → Option Value} {base : Heap} {x : Str} {C : Addr} (c : ExK P w K mg base x C) : OexC K C := c.T.choose_spec.oex
theorem ExK.noW {P : Program} {w : World} {K : PySem.W.Frag} {mg : Str → Option Value} {base : Heap} {x : Str} {C : Addr} (c : ExK P w K mg base x C) : PySem.W.findIn K (.ref C) "word" = some none := c.T.choose_spec.noW
/-- a new exception with the word y -/
def MkE (K : PySem.W.Frag) (C : Addr) (y : V) (H1 : Hp) (Q : XK) : Prop := [y].length ≤ 1000 ∧ ∀ a, H1 a = none → spInit K (.ref a :: ([y] ++ [])) (upd H1 a (exo a C none))
  (fun v H2 => v = .non ∧ ∃ (d : Addr) (fs : List (Str × V)), H2 a = some (exo a C (some d)) ∧ H2 d = some (exd d fs) ∧ H1 d = none ∧ Q (.ref C) (some d) (upd (del H2 a) d (.xd fs))) (fun _ _ _ => False)
theorem mkE_of {K : PySem.W.Frag} {C : Addr} {y : V} {H1 : Hp} {Q : XK} (T : OexC K C) (no : PySem.W.findIn K (.ref C) "word" = some none) (h : ∀ d H2, Same H1 H2 → H2 d = some (.xd [("word", y)]) → Q (.ref C) (some d) H2) : MkE K C y H1 Q := by
  refine ⟨show (1 : Nat) ≤ 1000 from by decide, fun a na => ⟨a, C, y, rfl, T, no, upd_same, fun d nd ne => ⟨rfl, d, _, upd_same, ?_, ?_, h d _ ?_ upd_same⟩⟩⟩
  · unfold exoHp
    rw [upd_ne ne, upd_same]
  · rw [upd_ne ne] at nd; exact nd
  · rw [upd_ne ne] at nd
    intro b o e
    have b1 : b ≠ d := ne_of_none e nd
    have b2 : b ≠ a := ne_of_none e na
    unfold exoHp
    rw [upd_ne b1, del_ne b2, upd_ne b2, upd_ne b1, upd_ne b2]
    exact e
def tNewE (K : PySem.W.Frag) (C : Addr) (te : TE) : L2.St → Hp → XK → Prop := fun σ H Q => te σ H fun y H1 => MkE K C y H1 Q
section
variable {X : Cx} {x : Str} {C : Addr} {e : Expr} {te : TE} {p pos pos2 : Pos} {j : Nat}
theorem pmk_new (c : ExK X.prog X.w X.K X.mg X.base x C) (hr : Room j X.A) (hk : 2 ≤ j) (hg : Gl X x) (he : PE X e te) (hdb : (x == ("__debug__" : Str)) = false := by decide)
    (hs : starEach [e] X.env = (false, eval e X.env) :: starEach [] X.env := by rfl) (hpl : (backTo pos (starEach [] X.env)).any (·.1) = false := by rfl) : PMk X (.Call (.Name x p) [e] [] pos) (tNewE X.K C te) := by
  obtain ⟨fI, fd, T, F, b⟩ := c.ex
  exact pmk_oex T.oex T.iC T.tI F (hr.mono hk) b .nil pass0 hg T.gC (pa_cons he pa_nil hs) hdb hs hpl
/-- raise x(e) -/
def tRaiseE (K : PySem.W.Frag) (W : WX) (C : Addr) (te : TE) : TS := fun _ σ H => tNewE K C te σ H fun cls d H' => W cls d σ H'
theorem ps_raiseE {W : WX} (hc : X.calm = true) (tk : L2.Takes X W) (c : ExK X.prog X.w X.K X.mg X.base x C) (hr : Room j X.A) (hk : 2 ≤ j) (hg : Gl X x) (he : PE X e te) (hdb : (x == ("__debug__" : Str)) = false := by decide)
    (hs : starEach [e] X.env = (false, eval e X.env) :: starEach [] X.env := by rfl) (hpl : (backTo pos (starEach [] X.env)).any (·.1) = false := by rfl) : PS X (.Raise (some (.Call (.Name x p) [e] [] pos)) none pos2) (tRaiseE X.K W C te) :=
  ps_raise hc tk (pmk_new c hr hk hg he hdb hs hpl)
end
/-! ### an exception as a value -/
/-- x(e) as a value -/
def tValE (K : PySem.W.Frag) (C : Addr) (te : TE) : TE := fun σ H Q => te σ H fun y H1 => ∀ a d H2, Same H1 H2 → H1 a = none → H1 d = none → H2 a = some (exo a C (some d)) → H2 d = some (exd d [("word", y)]) → Q (.ref a) H2
section
variable {X : Cx} {x : Str} {C : Addr} {e : Expr} {te : TE} {p pos : Pos} {j : Nat}
theorem pe_newE (c : ExK X.prog X.w X.K X.mg X.base x C) (hr : Room j X.A) (hk : 2 ≤ j) (hg : Gl X x) (ha : PE X e te) (hdb : (x == ("__debug__" : Str)) = false := by decide)
    (he : starEach [e] X.env = (false, eval e X.env) :: starEach [] X.env := by rfl) (hpl : (backTo pos (starEach [] X.env)).any (·.1) = false := by rfl) : PE X (.Call (.Name x p) [e] [] pos) (tValE X.K C te) := by
  obtain ⟨fI, fd, T, F1, hb⟩ := c.ex
  have T0 := T.oex
  obtain ⟨nm, q, N, bs, bm, sn, sub, ab, col, dd, k0, k1, k2, k3, k5, hC, hbm⟩ := T0.cls
  refine ⟨fun pins s σ H Q I h => ?_⟩
  refine wpAny_Call_Name_kw (ld_glob I hg T.gC ?_ hdb)
  refine PySem.W.callWith_K (h₀ := X.base) I.ok.mod.kin T0.kC (thn ((pa_cons ha pa_nil he).run pos pins s σ H (fun vs H1 => match vs with | [y] => ∀ a d H2, Same H1 H2 → H1 a = none → H1 d = none → H2 a = some (exo a C (some d)) → H2 d = some (exd d [("word", y)]) → Q (.ref a) H2 | _ => False) I h) fun us s1 ⟨vs, H1, I1, r1, q1⟩ => ⟨I1.kIn, ?_⟩) he hpl
  obtain ⟨y, rfl⟩ : ∃ y, vs = [y] := by
    match vs, q1 with
    | [y], _ => exact ⟨y, rfl⟩
  replace q1 : ∀ a d H2, Same H1 H2 → H1 a = none → H1 d = none → H2 a = some (exo a C (some d)) → H2 d = some (exd d [("word", y)]) → Q (.ref a) H2 := q1
  show wpAny _ _ (call (.ref C) us) _ _ _
  obtain ⟨hp, g, dr, tk, os⟩ := s1
  have hsz : hp.objs.size ≤ hp.objs.size + 1 := Nat.le_succ _
  have hn : H1 (hp.objs.size + 1) = none := I1.hok.fresh hsz
  have kk : ∀ b o, hp.get? b = some o → ((hp.push (PySem.W.kdv_tup us)).push (PySem.HandSPX.excO C hp.objs.size)).get? b = some o := fun b o e => Heap.get?_push_of_some _ (Heap.get?_push_of_some _ e)
  have hget : ((hp.push (PySem.W.kdv_tup us)).push (PySem.HandSPX.excO C hp.objs.size)).get? (hp.objs.size + 1) = some (PySem.HandSPX.excO C hp.objs.size) := by heap_get
  have I2 : Inv X pins σ (upd H1 (hp.objs.size + 1) (exo (hp.objs.size + 1) C none)) ⟨(hp.push (PySem.W.kdv_tup us)).push (PySem.HandSPX.excO C hp.objs.size), g, dr, tk, os⟩ :=
    I1.laid (t' := tk) (a := hp.objs.size + 1) (o := exo (hp.objs.size + 1) C none) (h' := (hp.push (PySem.W.kdv_tup us)).push (PySem.HandSPX.excO C hp.objs.size)) kk hsz (exo_ok hget)
  have r2 : Vals [V.ref (hp.objs.size + 1), y] (Value.ref (hp.objs.size + 1) :: us) := .cons rfl r1
  have hl : (Value.ref (hp.objs.size + 1) :: us ++ []).length = 2 := by rw [List.append_nil]; exact r2.length.symm
  have hus : us.length ≤ sizeLine := by
    rw [← Paired.length r1, sizeLine_eq]
    exact (by decide : 1 ≤ 16777216)
  have hsp : spInit X.K [V.ref (hp.objs.size + 1), y] (upd H1 (hp.objs.size + 1) (exo (hp.objs.size + 1) C none)) (fun v H2 => v = .non ∧ ∃ d, H1 d = none ∧ Same H1 H2 ∧ H2 (hp.objs.size + 1) = some (exo (hp.objs.size + 1) C (some d)) ∧ H2 d = some (exd d [("word", y)])) (fun _ _ _ => False) := by
    refine ⟨_, C, y, rfl, T0, T.noW, upd_same, fun d nd ne => ⟨rfl, d, ?_, ?_, upd_same, ?_⟩⟩
    · rw [upd_ne ne] at nd; exact nd
    · rw [upd_ne ne] at nd
      intro b o e
      have b1 : b ≠ d := ne_of_none e nd
      have b2 : b ≠ hp.objs.size + 1 := ne_of_none e hn
      unfold exoHp
      rw [upd_ne b2, upd_ne b1, upd_ne b2]
      exact e
    · unfold exoHp
      rw [upd_ne ne, upd_same]
  refine wpAny_call (PySem.HandSPX.call_own F.excBase_ValueError (fun Y => PySem.HandSPX.refsVE_contains Y bm hbm) (I1.kIn _ _ hC) (PySem.W.looks_findIn I1.kIn T.iC) (fun self => PySem.W.bind_fn I1.kIn self T.tI) hus
    (codeAny_mono ((F1.mono (show 1 ≤ 1 from Nat.le_refl _)).run _ X.stack _ _ ⟨Value.ref (hp.objs.size + 1) :: us, []⟩ (Value.ref (hp.objs.size + 1) :: us ++ []) _ _ (fun _ _ _ => False) ((hr.mono hk).make C us []) (I2.env0.make C us []) (hb _ (Value.ref (hp.objs.size + 1) :: us) I2.kIn hl) (by rw [List.append_nil]; exact r2) hsp) fun r s' hq' => ?_))
  cases r with
  | error er => exact (show False from hq').elim
  | ok fl =>
    cases fl with
    | ret u =>
      obtain ⟨v, H2, os2, bare2, un2, hok2, rv, ev, d, nd, sm, ea, ed⟩ := hq'
      subst ev
      obtain ⟨h2, g2, d2, t2, os'⟩ := s'
      refine ⟨rv, ?_⟩
      have J := I2.call' (ch := []) os2 un2 hok2 bare2 (fun b z => absurd z (by simp))
      exact ⟨.ref (hp.objs.size + 1), H2, J, rfl, q1 _ d H2 sm hn nd ea ed⟩
    | next => exact False.elim hq'
    | brk => exact False.elim hq'
    | cont => exact False.elim hq'
end
end M02

namespace M02
open PySem PySem.Spec PyProof.Rows L2
open C8 (Cal pe_c pe_gc pss_cut)
theorem same_upd {H : Hp} {p : Addr} {o : HO} (h : H p = none) : Same H (upd H p o) := fun b x e => by
  rw [upd_ne (ne_of_none e h)]; exact e
theorem same_at {H0 H : Hp} {D : Addr} {o : HO} (s : Same H0 H) (n : H0 D = none) : Same H0 (upd H D o) := fun b x e => by
  rw [upd_ne (ne_of_none e n)]; exact s _ _ e
theorem sq_tup {K : PySem.W.Frag} {H : Hp} {p : Addr} {xs : List V} (h : H p = some (.tup xs)) : SqT K H p xs := .inl (.inl h)
theorem sq_lst {K : PySem.W.Frag} {H : Hp} {p : Addr} {xs : List V} (h : H p = some (.lst xs)) : SqL K H p xs := .inl (.inl h)
theorem ne_of {H : Hp} {a b : Addr} {x y : HO} (ha : H a = some x) (hb : H b = some y) (n : x ≠ y) : a ≠ b := fun z => by
  rw [z, hb] at ha
  exact n (Option.some.inj ha).symm
/-! ### isinstance, of own errors too -/
structure IsE (K : PySem.W.Frag) (C : Addr) : Prop where
  cl : (PySem.W.clsIn K C).isSome = true
  ga : PySem.W.findIn K (.ref C) "__getattribute__" = some (some (.builtin "BaseException.__getattribute__"))
  gg : PySem.W.findIn K (.ref C) "__getattr__" = some none
  exC : PySem.W.subIn K (.ref C) (.type "BaseException") = some true
  ha : PySem.W.findIn K (.ref C) "__class__" = some (some (.builtin "object.__class__"))
  hn : PySem.W.specialIn K (.builtin "object.__class__") "__get__" = some (some (.builtin "getset_descriptor.__get__"))
  htk : PySem.W.takesIn K (.builtin "object.__class__") = some true
  hm : PySem.W.mroIn K C (.type "object") = some true
inductive TyE (K : PySem.W.Frag) (H : Hp) : V → Value → Prop where
  | base {x : V} {t : Value} (h : TyX K H x t) : TyE K H x t
  | exc {a C d : Addr} {fs : List (Str × V)} (T : IsE K C) (e : H a = some (exo a C (some d))) (f : H d = some (exd d fs)) : TyE K H (.ref a) (.ref C)
def rIsE (K : PySem.W.Frag) : List V → Hp → VK → Prop := fun xs H Q => ∃ (x : V) (t : Value) (n : String) (b : Bool), xs = [x, .ty n] ∧ TyE K H x t ∧ PySem.W.kitOne K t (.type n) = some b ∧ Q (.bl b) H
section
variable {X : Cx}
theorem call_isE : CallR X (.builtin "isinstance") (rIsE X.K) := by
  intro pins s σ H xs us Q I r h
  obtain ⟨x, t, n, b, rfl, ty, e, q⟩ := h
  cases ty with
  | base ty => exact call_isi pins s σ H _ us Q I r ⟨x, .ty n, t, .type n, b, rfl, .ty n, ty, e, q⟩
  | @exc a C d fs T ea ed =>
    obtain ⟨u1, u2, rfl, r1, r2⟩ := vals2 r
    cases (show u1 = Value.ref a from r1)
    cases (show u2 = Value.type n from r2)
    obtain ⟨t1, ho⟩ := exo_at I.hok ea
    obtain ⟨mA, ⟨od, es, ep, hd, hrest⟩, rel⟩ := exd_at I.hok ed
    have J : PySem.W.InstAt s.heap a { cls := .ref C, dict := some d, data := .fields #[.ref t1, .none, .none, .none, .bool false, .none] } C (some od) := ⟨ho, rfl, rfl, hd⟩
    exact PySem.W.kia_one (PySem.W.kitx_exc T.cl T.ga T.gg T.exC T.ha T.hn T.htk T.hm) I.kIn J e (fun z => nomatch z) fun tk => ⟨.bl b, H, I.tok tk, rfl, q⟩
/-! ### // by any divisor but 0 -/
def CDivX (_ j : Int) : Prop := j ≠ 0 ∧ j.natAbs.log2 < 9000
theorem op_fdivX : OpR X (binaryOp .FloorDiv) (rI CDivX fun i j => .int (i.fdiv j)) := opI fun i j _ _ _ _ _ hc q => floordiv_int hc.1 q (.inl (PyProof.noPylong_of_log2 hc.2))
end
theorem divx_ok {i j : Int} {b : Nat} (h : j ≠ 0) (hb : j.natAbs < 2 ^ b) (h0 : 0 < b) (h9 : b ≤ 9000) : CDivX i j := ⟨h, Nat.lt_of_lt_of_le (PySem.Flt.log2_lt_of h0 hb) h9⟩
/-! ### calls -/
/-- a def that may raise -/
structure CalX (P : Program) (w : World) (K : PySem.W.Frag) (mg : Str → Option Value) (base : Heap) (k : Nat) (x : Str) (sp : Sp) : Prop where
  ex : ∃ (f : Addr) (fd : FuncData) (ps : List Str), FnOk P w K mg base (L2.CX P w) k f fd ps sp ∧ mg x = some (.ref f) ∧ PySem.W.keepIn K (.ref f) = true ∧ Binds K fd ps []
section
variable {X : Cx} {k j : Nat} {x : Str} {sp : Sp} {e : Expr} {es : List Expr} {t : TA} {p pos : Pos}
/-- x(..), where x raises nothing -/
theorem pe_x (c : CalX X.prog X.w X.K X.mg X.base k x sp) (hr : Room j X.A) (hk : k ≤ j) (hg : Gl X x) (ha : PA X (e :: es) t)
    (hdb : (x == ("__debug__" : Str)) = false := by decide) (he : starEach (e :: es) X.env = (false, eval e X.env) :: starEach es X.env := by rfl) (hpl : (backTo pos (starEach es X.env)).any (·.1) = false := by rfl) :
    PE X (.Call (.Name x p) (e :: es) [] pos) (tCall sp [] L2.E0 t) := by
  obtain ⟨f, fd, ps, F, hm, kp, b⟩ := c.ex
  exact pe_call F (hr.mono hk) hg hm kp b .nil passL ha hdb he hpl
/-- x(..), where what x raises goes on as E -/
theorem pe_xE {E : XK} (hx : Passes (L2.CX X.prog X.w) X E) (c : CalX X.prog X.w X.K X.mg X.base k x sp) (hr : Room j X.A) (hk : k ≤ j) (hg : Gl X x) (ha : PA X (e :: es) t)
    (hdb : (x == ("__debug__" : Str)) = false := by decide) (he : starEach (e :: es) X.env = (false, eval e X.env) :: starEach es X.env := by rfl) (hpl : (backTo pos (starEach es X.env)).any (·.1) = false := by rfl) :
    PE X (.Call (.Name x p) (e :: es) [] pos) (tCall sp [] E t) := by
  obtain ⟨f, fd, ps, F, hm, kp, b⟩ := c.ex
  exact pe_call F (hr.mono hk) hg hm kp b .nil hx ha hdb he hpl
end
/-- two, exchanged -/
def sw {α : Type} : List α → List α
  | [x, y] => [y, x]
  | _ => []
/-- a call with keywords alone -/
structure CalK (P : Program) (w : World) (K : PySem.W.Frag) (mg : Str → Option Value) (base : Heap) (k : Nat) (x : Str) (ks : List Str) (gV : List V → List V) (sp : Sp) : Prop where
  ex : ∃ (f : Addr) (fd : FuncData) (ps : List Str) (gu : List Value → List Value) (CX : CXT), (CX = CX0 ∨ CX = L2.CX P w) ∧ FnOk P w K mg base CX k f fd ps sp ∧ mg x = some (.ref f) ∧ PySem.W.keepIn K (.ref f) = true ∧
    (∀ (s : Shared) (ws : List Value), (gu ws).length = ps.length → BindsTo s fd ⟨[], ks.zip ws⟩ (ps.zip (gu ws))) ∧ ∀ (zs : List V) (ws : List Value), Vals zs ws → Vals (gV zs) (gu ws)
def tKw (sp : Sp) (gV : List V → List V) (E : XK) (tk : TA) : TE := fun σ H Q => tk σ H fun zs H1 => sp (gV zs) H1 Q E
section
variable {X : Cx} {k j : Nat} {x : Str} {ks : List Str} {gV : List V → List V} {sp : Sp} {p pos : Pos} {kws : List Keyword} {tk : TA}
theorem pe_kwE {E : XK} (hx : Passes (L2.CX X.prog X.w) X E) (c : CalK X.prog X.w X.K X.mg X.base k x ks gV sp) (hr : Room j X.A) (hk : k ≤ j) (hg : Gl X x) (hkw : PK X kws tk)
    (hall : (backToKw pos (keywordEach kws X.env)).all (·.1.isSome) = true := by rfl) (hks : (backToKw pos (keywordEach kws X.env)).filterMap (·.1) = ks := by rfl) (hdb : (x == ("__debug__" : Str)) = false := by decide)
    (hpl : ((backTo pos (starEach [] X.env)).any (·.1) || (backToKw pos (keywordEach kws X.env)).any (·.1.isNone)) = false := by rfl) : PE X (.Call (.Name x p) [] kws pos) (tKw sp gV E tk) := by
  obtain ⟨f, fd, ps, gu, CX, hC, F, hm, kp, bt, rel⟩ := c.ex
  refine ⟨fun pins s1 σ H Q I hh => wpAny_Call_Name_kw (ld_glob I hg hm ?_ hdb)⟩
  refine PySem.W.callWith_KW0 (h₀ := X.base) I.ok.mod.kin kp hall (thn (hkw.run pos pins s1 σ H _ I hh) fun ws s2 hz => ?_) hpl
  obtain ⟨zs, H2, I2, rz, q2⟩ := hz
  refine ⟨I2.kIn, ?_⟩
  rw [hks]
  have r2 := rel zs ws rz
  have hl : (gu ws).length = ps.length := r2.length.symm.trans (F.len _ _ _ _ q2)
  refine wpAny_call (codeAny_mono ((F.mono hk).run X.A X.stack s2 H2 ⟨[], ks.zip ws⟩ (gu ws) (gV zs) Q E hr I2.env0 (bt s2 ws hl) r2 q2) fun r s3 hq => ?_)
  cases r with
  | error e =>
    rcases hC with rfl | rfl
    · exact (show False from hq).elim
    · exact hx pins σ H2 s2 e s3 I2 hq
  | ok fl =>
    cases fl with
    | ret u => exact I2.after hq
    | next => exact hq.elim
    | brk => exact hq.elim
    | cont => exact hq.elim
theorem pe_kw (c : CalK X.prog X.w X.K X.mg X.base k x ks gV sp) (hr : Room j X.A) (hk : k ≤ j) (hg : Gl X x) (hkw : PK X kws tk)
    (hall : (backToKw pos (keywordEach kws X.env)).all (·.1.isSome) = true := by rfl) (hks : (backToKw pos (keywordEach kws X.env)).filterMap (·.1) = ks := by rfl) (hdb : (x == ("__debug__" : Str)) = false := by decide)
    (hpl : ((backTo pos (starEach [] X.env)).any (·.1) || (backToKw pos (keywordEach kws X.env)).any (·.1.isNone)) = false := by rfl) : PE X (.Call (.Name x p) [] kws pos) (tKw sp gV L2.E0 tk) := pe_kwE passL c hr hk hg hkw hall hks hdb hpl
end
/-- a def of the text, its name, how it binds -/
structure Df (K : PySem.W.Frag) (mg : Str → Option Value) (x : Str) (st : Stmt) (ps : List Str) : Prop where
  ex : ∃ f fd, Fun K x x st f fd ∧ mg x = some (.ref f) ∧ Binds K fd ps []
section
variable {P : Program} {w : World} {K : PySem.W.Frag} {mg : Str → Option Value} {base : Heap}
theorem cal_of {x : Str} {st : Stmt} {ps : List Str} {k : Nat} {sp : Sp} (D : Df K mg x st ps) (h : ∀ f fd, Fun K x x st f fd → FnOk P w K mg base CX0 k f fd ps sp) : Cal P w K mg base k x sp [] := by
  obtain ⟨f, fd, F, hm, b⟩ := D.ex
  exact ⟨f, fd, ps, [], h f fd F, hm, F.kp, b, .nil⟩
theorem calx_of {x : Str} {st : Stmt} {ps : List Str} {k : Nat} {sp : Sp} (D : Df K mg x st ps) (h : ∀ f fd, Fun K x x st f fd → FnOk P w K mg base (L2.CX P w) k f fd ps sp) : CalX P w K mg base k x sp := by
  obtain ⟨f, fd, F, hm, b⟩ := D.ex
  exact ⟨f, fd, ps, h f fd F, hm, F.kp, b⟩
end
/-- what the text's top has -/
structure Txt (K : PySem.W.Frag) (mg : Str → Option Value) : Prop where
  b_len : mg "len" = none
  b_range : mg "range" = none
  b_int : mg "int" = none
  b_abs : mg "abs" = none
  b_all : mg "all" = none
  b_tuple : mg "tuple" = none
  b_bool : mg "bool" = none
  b_zip : mg "zip" = none
  b_isinstance : mg "isinstance" = none
  g_gcd : mg "gcd" = some (.builtin "math.gcd")
end M02

namespace M02
open PySem PySem.Spec PyProof.Rows L2 SX
open C8 (Cal pe_c pe_gc pss_cut)
/-! ### fractions in the heap -/
def tpl (q : Q) : HO := .tup [.int q.1, .int q.2]
def FrV (H : Hp) (v : V) (q : Q) : Prop := ∃ p, v = .ref p ∧ H p = some (tpl q)
structure SmQ (q : Q) : Prop where
  top : q.1.natAbs < 2 ^ 24
  pos : 0 < q.2
  bot : q.2.natAbs < 2 ^ 24
theorem FrV.same {H H' : Hp} {v : V} {q : Q} (h : FrV H v q) (s : Same H H') : FrV H' v q := by
  obtain ⟨p, e, f⟩ := h
  exact ⟨p, e, s _ _ f⟩
theorem m40 {a : Int} (h : a.natAbs < 2 ^ 24) : -(2 : Int) ^ 64 < a ∧ a < 2 ^ 64 := by
  have e1 : (2 : Nat) ^ 24 = 16777216 := by decide
  have e2 : (2 : Int) ^ 64 = 18446744073709551616 := by decide
  rw [e1] at h; rw [e2]; omega
/-- whether a value is an integer, a bool left out -/
def WhV (K : PySem.W.Frag) (H : Hp) (x : V) (b : Bool) : Prop := ∃ t b1 b2, TyE K H x t ∧ PySem.W.kitOne K t (.type "int") = some b1 ∧ PySem.W.kitOne K t (.type "bool") = some b2 ∧ b = (b1 && !b2)
theorem WhV.int {K : PySem.W.Frag} {H : Hp} (i : Int) : WhV K H (.int i) true := ⟨.type "int", true, false, .base (.base (.int i)), by rfl, by rfl, rfl⟩
theorem two_ok {x y : V} : [x, y].length ≤ sizeLine := by
  rw [sizeLine_eq]
  exact (by decide : 2 ≤ 16777216)
theorem bot_ok {x y : Int} (hx : x.natAbs < 2 ^ 24) (hy : y.natAbs < 2 ^ 24) : (x * y).natAbs < 2 ^ 8000 :=
  Nat.lt_of_lt_of_le (wide_lt hx hy) (Nat.pow_le_pow_right (by decide) (by decide))
theorem bot_ne {a b : Q} (sa : SmQ a) (sb : SmQ b) : a.2 * b.2 ≠ 0 := Int.ne_of_gt (Int.mul_pos sa.pos sb.pos)
theorem d24 {a : Q} (sa : SmQ a) : 0 < a.2 ∧ a.2 < 1073741824 := by
  have h := sa.bot
  have e1 : (2 : Nat) ^ 24 = 16777216 := by decide
  rw [e1] at h
  exact ⟨sa.pos, by omega⟩
section
variable {P : Program} {w : World} {K : PySem.W.Frag} {mg : Str → Option Value} {base : Heap}
abbrev s_is_whole : Stmt := topS 6
abbrev n_is_whole : List Str := ["value"]
theorem sc_is_whole : FnScope n_is_whole ["value"] (defScope s_is_whole) := ⟨rfl, rfl, rfl, by decide +kernel, rfl, by decide +kernel, by decide +kernel⟩
def spWh (K : PySem.W.Frag) : Sp := fun vs H Q _ => ∃ (x : V) (b : Bool), vs = [x] ∧ WhV K H x b ∧ Q (.bl b) H
theorem ok_is_whole {f : Addr} {fd : FuncData} (F : Fun K "is_whole" "is_whole" s_is_whole f fd) (T : Txt K mg) : FnOk P w K mg base CX0 1 f fd ["value"] (spWh K) := by
  refine F.ok sc_is_whole (fun vs H Q E h => ?_) (fun cdv A outer s H vs Q E hr h => ?_)
  · obtain ⟨x, b, rfl, _⟩ := h
    rfl
  · obtain ⟨x, b, rfl, ⟨t, b1, b2, ty, k1, k2, rfl⟩, q⟩ := h
    refine ⟨_, (pss_one (ps_ret (pe_and (pe_callB call_isE (by rfl) T.b_isinstance (by decide +kernel) (pa_cons (pv 0) (pa_cons (pe_bltn (v := .ty "int") (by rfl) T.b_int boot_int rfl) pa_nil))) (pe_one (pe_not (pe_callB call_isE (by rfl) T.b_isinstance (by decide +kernel) (pa_cons (pv 0) (pa_cons (pe_bltn (v := .ty "bool") (by rfl) T.b_bool boot_bool rfl) pa_nil)))))))), ?_⟩
    refine ⟨_, rfl, x, t, "int", b1, rfl, ty, k1, b1, rfl, ?_⟩
    cases b1 with
    | false => exact iteF q
    | true => exact iteT ⟨_, rfl, x, t, "bool", b2, rfl, ty, k2, b2, rfl, q⟩
abbrev s_fraction_of : Stmt := topS 7
abbrev n_fraction_of : List Str := ["top", "bottom", "shared"]
theorem sc_fraction_of : FnScope n_fraction_of ["top", "bottom"] (defScope s_fraction_of) := ⟨rfl, rfl, rfl, by decide +kernel, rfl, by decide +kernel, by decide +kernel⟩
/-- fraction_of raises word "zero" -/
def spFrac (CN : Addr) : Sp := fun vs H Q E => ∃ (t b : Int), vs = [.int t, .int b] ∧ b.natAbs < 2 ^ 8000 ∧ (b ≠ 0 → ∀ p, H p = none → Q (.ref p) (upd H p (tpl (frac t b)))) ∧
  (b = 0 → ∀ d H2, Same H H2 → H2 d = some (.xd [("word", .str "zero")]) → E (.ref CN) (some d) H2)
theorem ok_fraction_of {f CN : Addr} {fd : FuncData} (F : Fun K "fraction_of" "fraction_of" s_fraction_of f fd) (T : Txt K mg) (e_InvalidNumber : ExK P w K mg base "InvalidNumber" CN) : FnOk P w K mg base (L2.CX P w) 3 f fd ["top", "bottom"] (spFrac CN) := by
  refine F.okX sc_fraction_of (fun vs H Q E h => ?_) (fun cdv A outer s H vs Q E hr h => ?_)
  · obtain ⟨t, b, rfl, _⟩ := h
    rfl
  · obtain ⟨t, b, rfl, hb, q0, q1⟩ := h
    refine ⟨_, (pss_cons (ps_if (pt_cmpR op_eq (pv 1) pe_int (nomark _)) (pss_one (ps_raiseE rfl (takes_of rfl rfl rfl rfl) e_InvalidNumber hr (by decide) (by rfl) pe_str)) pss_nil)
      (pss_cons (ps_set (i := 2) sc_fraction_of.nd rfl (.inl rfl) (pe_callBfun cr_gcd (by rfl) T.g_gcd (pa_cons (pv 0) (pa_cons (pv 1) pa_nil))))
      (pss_cons (ps_if (pt_cmpR op_lt (pv 1) pe_int (nomark _)) (pss_one (ps_set (i := 2) sc_fraction_of.nd rfl (.inl rfl) (pe_un un_neg (pv 2)))) pss_nil)
      (pss_one (ps_ret (pe_tup (pa_cons (pe_op op_fdivX (pv 0) (pv 2)) (pa_cons (pe_op op_fdivX (pv 1) (pv 2)) pa_nil)))))))), ?_⟩
    refine ⟨_, rfl, rfl, _, rfl, ite2 (fun hz => ?_) (fun hz => ?_)⟩
    · have hz : b = 0 := V.int.inj (of_decide_eq_true hz)
      exact mkE_of e_InvalidNumber.oex e_InvalidNumber.noW fun d H2 sm e => q1 hz d H2 sm e
    · have hz : b ≠ 0 := fun z => hz (decide_eq_true (by rw [z]))
      have gb : Nat.gcd t.natAbs b.natAbs ≤ b.natAbs := Nat.gcd_le_right _ (by omega)
      have gp : 0 < Nat.gcd t.natAbs b.natAbs := Nat.gcd_pos_of_pos_right _ (by omega)
      refine ⟨_, rfl, _, rfl, t, b, rfl, _, rfl, _, _, rfl, rfl, _, rfl, ite2 (fun hn => ?_) (fun hn => ?_)⟩
      · have hn : b < 0 := of_decide_eq_true hn
        refine ⟨_, rfl, _, rfl, ?_⟩
        have cx : ∀ i, CDivX i (-((Nat.gcd t.natAbs b.natAbs : Nat) : Int)) := fun i => divx_ok (b := 8000) (by omega) (Nat.lt_of_le_of_lt (by omega) hb) (by decide) (by decide)
        refine ⟨_, rfl, _, rfl, _, _, rfl, rfl, cx _, _, rfl, _, rfl, _, _, rfl, rfl, cx _, two_ok, fun p np => ?_⟩
        have e := q0 hz p np
        unfold tpl frac at e
        rw [if_pos hn] at e
        exact e
      · have hn : ¬ b < 0 := fun z => hn (decide_eq_true z)
        have cx : ∀ i, CDivX i ((Nat.gcd t.natAbs b.natAbs : Nat) : Int) := fun i => divx_ok (b := 8000) (by omega) (Nat.lt_of_le_of_lt (by omega) hb) (by decide) (by decide)
        refine ⟨_, rfl, _, rfl, _, _, rfl, rfl, cx _, _, rfl, _, rfl, _, _, rfl, rfl, cx _, two_ok, fun p np => ?_⟩
        have e := q0 hz p np
        unfold tpl frac at e
        rw [if_neg hn] at e
        exact e
abbrev s_whole : Stmt := topS 8
abbrev n_whole : List Str := ["number"]
theorem sc_whole : FnScope n_whole ["number"] (defScope s_whole) := ⟨rfl, rfl, rfl, by decide +kernel, rfl, by decide +kernel, by decide +kernel⟩
def spWhole : Sp := fun vs H Q _ => ∃ i : Int, vs = [.int i] ∧ ∀ p, H p = none → Q (.ref p) (upd H p (tpl (i, 1)))
theorem ok_whole {f : Addr} {fd : FuncData} (F : Fun K "whole" "whole" s_whole f fd) : FnOk P w K mg base CX0 1 f fd ["number"] spWhole := by
  refine F.ok sc_whole (fun vs H Q E h => ?_) (fun cdv A outer s H vs Q E hr h => ?_)
  · obtain ⟨i, rfl, _⟩ := h
    rfl
  · obtain ⟨i, rfl, q⟩ := h
    refine ⟨_, (pss_one (ps_ret (pe_tup (pa_cons (pv 0) (pa_cons pe_int pa_nil))))), ?_⟩
    exact ⟨_, rfl, two_ok, fun p np => q p np⟩
/-- of two fractions -/
def spTwo (g : M02.Q → M02.Q → Int × Int) : Sp := fun vs H Q E => ∃ (v1 v2 : V) (a b : M02.Q), vs = [v1, v2] ∧ FrV H v1 a ∧ FrV H v2 b ∧ SmQ a ∧ SmQ b ∧ ∀ p, H p = none → Q (.ref p) (upd H p (tpl (frac (g a b).1 (g a b).2)))
abbrev s_added : Stmt := topS 10
abbrev n_added : List Str := ["one", "other"]
theorem sc_added : FnScope n_added ["one", "other"] (defScope s_added) := ⟨rfl, rfl, rfl, by decide +kernel, rfl, by decide +kernel, by decide +kernel⟩
theorem ok_added {f CN : Addr} {fd : FuncData} (F : Fun K "added" "added" s_added f fd) (x_fraction_of : CalX P w K mg base 3 "fraction_of" (spFrac CN)) : FnOk P w K mg base CX0 4 f fd ["one", "other"] (spTwo fun a b => (a.1 * b.2 + b.1 * a.2, a.2 * b.2)) := by
  refine F.ok sc_added (fun vs H Q E h => ?_) (fun cdv A outer s H vs Q E hr h => ?_)
  · obtain ⟨v1, v2, a, b, rfl, _⟩ := h
    rfl
  · obtain ⟨v1, v2, a, b, rfl, ⟨p1, rfl, h1⟩, ⟨p2, rfl, h2⟩, sa, sb, q⟩ := h
    refine ⟨_, (pss_one (ps_ret (pe_x x_fraction_of hr (by decide) (by rfl) (pa_cons (pe_op op_add (pe_op op_mul (pe_ix ix_tup (pv 0) pe_int (fun _ _ => rfl)) (pe_ix ix_tup (pv 1) pe_int (fun _ _ => rfl))) (pe_op op_mul (pe_ix ix_tup (pv 1) pe_int (fun _ _ => rfl)) (pe_ix ix_tup (pv 0) pe_int (fun _ _ => rfl)))) (pa_cons (pe_op op_mul (pe_ix ix_tup (pv 0) pe_int (fun _ _ => rfl)) (pe_ix ix_tup (pv 1) pe_int (fun _ _ => rfl))) pa_nil))))), ?_⟩
    refine ⟨_, rfl, p1, _, 0, .int a.1, rfl, rfl, sq_tup h1, rfl, _, rfl, p2, _, 1, .int b.2, rfl, rfl, sq_tup h2, rfl, _, _, rfl, rfl, .inl (m40 sa.top), ?_⟩
    refine ⟨_, rfl, p2, _, 0, .int b.1, rfl, rfl, sq_tup h2, rfl, _, rfl, p1, _, 1, .int a.2, rfl, rfl, sq_tup h1, rfl, _, _, rfl, rfl, .inl (m40 sb.top), _, _, rfl, rfl, ?_⟩
    refine ⟨_, rfl, p1, _, 1, .int a.2, rfl, rfl, sq_tup h1, rfl, _, rfl, p2, _, 1, .int b.2, rfl, rfl, sq_tup h2, rfl, _, _, rfl, rfl, .inl (m40 sa.bot), ?_⟩
    exact ⟨_, _, rfl, bot_ok sa.bot sb.bot, fun _ p np => q p np, fun z => absurd z (bot_ne sa sb)⟩
abbrev s_taken : Stmt := topS 11
abbrev n_taken : List Str := ["one", "other"]
theorem sc_taken : FnScope n_taken ["one", "other"] (defScope s_taken) := ⟨rfl, rfl, rfl, by decide +kernel, rfl, by decide +kernel, by decide +kernel⟩
theorem ok_taken {f CN : Addr} {fd : FuncData} (F : Fun K "taken" "taken" s_taken f fd) (x_fraction_of : CalX P w K mg base 3 "fraction_of" (spFrac CN)) : FnOk P w K mg base CX0 4 f fd ["one", "other"] (spTwo fun a b => (a.1 * b.2 - b.1 * a.2, a.2 * b.2)) := by
  refine F.ok sc_taken (fun vs H Q E h => ?_) (fun cdv A outer s H vs Q E hr h => ?_)
  · obtain ⟨v1, v2, a, b, rfl, _⟩ := h
    rfl
  · obtain ⟨v1, v2, a, b, rfl, ⟨p1, rfl, h1⟩, ⟨p2, rfl, h2⟩, sa, sb, q⟩ := h
    refine ⟨_, (pss_one (ps_ret (pe_x x_fraction_of hr (by decide) (by rfl) (pa_cons (pe_op op_sub (pe_op op_mul (pe_ix ix_tup (pv 0) pe_int (fun _ _ => rfl)) (pe_ix ix_tup (pv 1) pe_int (fun _ _ => rfl))) (pe_op op_mul (pe_ix ix_tup (pv 1) pe_int (fun _ _ => rfl)) (pe_ix ix_tup (pv 0) pe_int (fun _ _ => rfl)))) (pa_cons (pe_op op_mul (pe_ix ix_tup (pv 0) pe_int (fun _ _ => rfl)) (pe_ix ix_tup (pv 1) pe_int (fun _ _ => rfl))) pa_nil))))), ?_⟩
    refine ⟨_, rfl, p1, _, 0, .int a.1, rfl, rfl, sq_tup h1, rfl, _, rfl, p2, _, 1, .int b.2, rfl, rfl, sq_tup h2, rfl, _, _, rfl, rfl, .inl (m40 sa.top), ?_⟩
    refine ⟨_, rfl, p2, _, 0, .int b.1, rfl, rfl, sq_tup h2, rfl, _, rfl, p1, _, 1, .int a.2, rfl, rfl, sq_tup h1, rfl, _, _, rfl, rfl, .inl (m40 sb.top), _, _, rfl, rfl, ?_⟩
    refine ⟨_, rfl, p1, _, 1, .int a.2, rfl, rfl, sq_tup h1, rfl, _, rfl, p2, _, 1, .int b.2, rfl, rfl, sq_tup h2, rfl, _, _, rfl, rfl, .inl (m40 sa.bot), ?_⟩
    exact ⟨_, _, rfl, bot_ok sa.bot sb.bot, fun _ p np => q p np, fun z => absurd z (bot_ne sa sb)⟩
abbrev s_timed : Stmt := topS 12
abbrev n_timed : List Str := ["one", "other"]
theorem sc_timed : FnScope n_timed ["one", "other"] (defScope s_timed) := ⟨rfl, rfl, rfl, by decide +kernel, rfl, by decide +kernel, by decide +kernel⟩
theorem ok_timed {f CN : Addr} {fd : FuncData} (F : Fun K "timed" "timed" s_timed f fd) (x_fraction_of : CalX P w K mg base 3 "fraction_of" (spFrac CN)) : FnOk P w K mg base CX0 4 f fd ["one", "other"] (spTwo fun a b => (a.1 * b.1, a.2 * b.2)) := by
  refine F.ok sc_timed (fun vs H Q E h => ?_) (fun cdv A outer s H vs Q E hr h => ?_)
  · obtain ⟨v1, v2, a, b, rfl, _⟩ := h
    rfl
  · obtain ⟨v1, v2, a, b, rfl, ⟨p1, rfl, h1⟩, ⟨p2, rfl, h2⟩, sa, sb, q⟩ := h
    refine ⟨_, (pss_one (ps_ret (pe_x x_fraction_of hr (by decide) (by rfl) (pa_cons (pe_op op_mul (pe_ix ix_tup (pv 0) pe_int (fun _ _ => rfl)) (pe_ix ix_tup (pv 1) pe_int (fun _ _ => rfl))) (pa_cons (pe_op op_mul (pe_ix ix_tup (pv 0) pe_int (fun _ _ => rfl)) (pe_ix ix_tup (pv 1) pe_int (fun _ _ => rfl))) pa_nil))))), ?_⟩
    refine ⟨_, rfl, p1, _, 0, .int a.1, rfl, rfl, sq_tup h1, rfl, _, rfl, p2, _, 0, .int b.1, rfl, rfl, sq_tup h2, rfl, _, _, rfl, rfl, .inl (m40 sa.top), ?_⟩
    refine ⟨_, rfl, p1, _, 1, .int a.2, rfl, rfl, sq_tup h1, rfl, _, rfl, p2, _, 1, .int b.2, rfl, rfl, sq_tup h2, rfl, _, _, rfl, rfl, .inl (m40 sa.bot), ?_⟩
    exact ⟨_, _, rfl, bot_ok sa.bot sb.bot, fun _ p np => q p np, fun z => absurd z (bot_ne sa sb)⟩
abbrev s_parted : Stmt := topS 13
abbrev n_parted : List Str := ["one", "other"]
theorem sc_parted : FnScope n_parted ["one", "other"] (defScope s_parted) := ⟨rfl, rfl, rfl, by decide +kernel, rfl, by decide +kernel, by decide +kernel⟩
def spPart (CN : Addr) : Sp := fun vs H Q E => ∃ (v1 v2 : V) (a b : M02.Q), vs = [v1, v2] ∧ FrV H v1 a ∧ FrV H v2 b ∧ SmQ a ∧ SmQ b ∧ (b.1 ≠ 0 → ∀ p, H p = none → Q (.ref p) (upd H p (tpl (frac (a.1 * b.2) (a.2 * b.1))))) ∧
  (b.1 = 0 → ∀ d H2, Same H H2 → H2 d = some (.xd [("word", .str "zero")]) → E (.ref CN) (some d) H2)
theorem ok_parted {f CN : Addr} {fd : FuncData} (F : Fun K "parted" "parted" s_parted f fd) (x_fraction_of : CalX P w K mg base 3 "fraction_of" (spFrac CN)) : FnOk P w K mg base (L2.CX P w) 4 f fd ["one", "other"] (spPart CN) := by
  refine F.okX sc_parted (fun vs H Q E h => ?_) (fun cdv A outer s H vs Q E hr h => ?_)
  · obtain ⟨v1, v2, a, b, rfl, _⟩ := h
    rfl
  · obtain ⟨v1, v2, a, b, rfl, ⟨p1, rfl, h1⟩, ⟨p2, rfl, h2⟩, sa, sb, q0, q1⟩ := h
    refine ⟨_, (pss_one (ps_ret (pe_xE (E := E) (passes_call (takes_of rfl rfl rfl rfl) fun _ _ _ _ z => z) x_fraction_of hr (by decide) (by rfl) (pa_cons (pe_op op_mul (pe_ix ix_tup (pv 0) pe_int (fun _ _ => rfl)) (pe_ix ix_tup (pv 1) pe_int (fun _ _ => rfl))) (pa_cons (pe_op op_mul (pe_ix ix_tup (pv 0) pe_int (fun _ _ => rfl)) (pe_ix ix_tup (pv 1) pe_int (fun _ _ => rfl))) pa_nil))))), ?_⟩
    refine ⟨_, rfl, p1, _, 0, .int a.1, rfl, rfl, sq_tup h1, rfl, _, rfl, p2, _, 1, .int b.2, rfl, rfl, sq_tup h2, rfl, _, _, rfl, rfl, .inl (m40 sa.top), ?_⟩
    refine ⟨_, rfl, p1, _, 1, .int a.2, rfl, rfl, sq_tup h1, rfl, _, rfl, p2, _, 0, .int b.1, rfl, rfl, sq_tup h2, rfl, _, _, rfl, rfl, .inl (m40 sa.bot), ?_⟩
    refine ⟨_, _, rfl, bot_ok sa.bot sb.top, fun z p np => q0 (fun y => z (by rw [y]; exact Int.mul_zero _)) p np, fun z d H2 sm e => q1 ?_ d H2 sm e⟩
    rcases Int.mul_eq_zero.mp z with y | y
    · have := sa.pos; omega
    · exact y
abbrev s_is_less : Stmt := topS 14
abbrev n_is_less : List Str := ["one", "other"]
theorem sc_is_less : FnScope n_is_less ["one", "other"] (defScope s_is_less) := ⟨rfl, rfl, rfl, by decide +kernel, rfl, by decide +kernel, by decide +kernel⟩
def spLess : Sp := fun vs H Q _ => ∃ (v1 v2 : V) (a b : M02.Q), vs = [v1, v2] ∧ FrV H v1 a ∧ FrV H v2 b ∧ SmQ a ∧ SmQ b ∧ Q (.bl (decide (a.1 * b.2 < b.1 * a.2))) H
theorem ok_is_less {f : Addr} {fd : FuncData} (F : Fun K "is_less" "is_less" s_is_less f fd) : FnOk P w K mg base CX0 1 f fd ["one", "other"] spLess := by
  refine F.ok sc_is_less (fun vs H Q E h => ?_) (fun cdv A outer s H vs Q E hr h => ?_)
  · obtain ⟨v1, v2, a, b, rfl, _⟩ := h
    rfl
  · obtain ⟨v1, v2, a, b, rfl, ⟨p1, rfl, h1⟩, ⟨p2, rfl, h2⟩, sa, sb, q⟩ := h
    refine ⟨_, (pss_one (ps_ret (pe_cmpR op_lt (pe_op op_mul (pe_ix ix_tup (pv 0) pe_int (fun _ _ => rfl)) (pe_ix ix_tup (pv 1) pe_int (fun _ _ => rfl))) (pe_op op_mul (pe_ix ix_tup (pv 1) pe_int (fun _ _ => rfl)) (pe_ix ix_tup (pv 0) pe_int (fun _ _ => rfl))) (nomark _)))), ?_⟩
    refine ⟨_, rfl, p1, _, 0, .int a.1, rfl, rfl, sq_tup h1, rfl, _, rfl, p2, _, 1, .int b.2, rfl, rfl, sq_tup h2, rfl, _, _, rfl, rfl, .inl (m40 sa.top), ?_⟩
    exact ⟨_, rfl, p2, _, 0, .int b.1, rfl, rfl, sq_tup h2, rfl, _, rfl, p1, _, 1, .int a.2, rfl, rfl, sq_tup h1, rfl, _, _, rfl, rfl, .inl (m40 sb.top), _, _, rfl, rfl, q⟩
abbrev s_floor_of : Stmt := topS 17
abbrev n_floor_of : List Str := ["value"]
theorem sc_floor_of : FnScope n_floor_of ["value"] (defScope s_floor_of) := ⟨rfl, rfl, rfl, by decide +kernel, rfl, by decide +kernel, by decide +kernel⟩
def spFloor : Sp := fun vs H Q _ => ∃ (v1 : V) (a : M02.Q), vs = [v1] ∧ FrV H v1 a ∧ SmQ a ∧ Q (.int (a.1 / a.2)) H
theorem ok_floor_of {f : Addr} {fd : FuncData} (F : Fun K "floor_of" "floor_of" s_floor_of f fd) : FnOk P w K mg base CX0 1 f fd ["value"] spFloor := by
  refine F.ok sc_floor_of (fun vs H Q E h => ?_) (fun cdv A outer s H vs Q E hr h => ?_)
  · obtain ⟨v1, a, rfl, _⟩ := h
    rfl
  · obtain ⟨v1, a, rfl, ⟨p1, rfl, h1⟩, sa, q⟩ := h
    refine ⟨_, (pss_one (ps_ret (pe_op op_fdiv (pe_ix ix_tup (pv 0) pe_int (fun _ _ => rfl)) (pe_ix ix_tup (pv 0) pe_int (fun _ _ => rfl))))), ?_⟩
    exact ⟨_, rfl, p1, _, 0, .int a.1, rfl, rfl, sq_tup h1, rfl, _, rfl, p1, _, 1, .int a.2, rfl, rfl, sq_tup h1, rfl, _, _, rfl, rfl, d24 sa, q⟩
abbrev s_ceiling_of : Stmt := topS 18
abbrev n_ceiling_of : List Str := ["value"]
theorem sc_ceiling_of : FnScope n_ceiling_of ["value"] (defScope s_ceiling_of) := ⟨rfl, rfl, rfl, by decide +kernel, rfl, by decide +kernel, by decide +kernel⟩
def spCeil : Sp := fun vs H Q _ => ∃ (v1 : V) (a : M02.Q), vs = [v1] ∧ FrV H v1 a ∧ SmQ a ∧ Q (.int (-(-a.1 / a.2))) H
theorem ok_ceiling_of {f : Addr} {fd : FuncData} (F : Fun K "ceiling_of" "ceiling_of" s_ceiling_of f fd) : FnOk P w K mg base CX0 1 f fd ["value"] spCeil := by
  refine F.ok sc_ceiling_of (fun vs H Q E h => ?_) (fun cdv A outer s H vs Q E hr h => ?_)
  · obtain ⟨v1, a, rfl, _⟩ := h
    rfl
  · obtain ⟨v1, a, rfl, ⟨p1, rfl, h1⟩, sa, q⟩ := h
    refine ⟨_, (pss_one (ps_ret (pe_un un_neg (pe_op op_fdiv (pe_un un_neg (pe_ix ix_tup (pv 0) pe_int (fun _ _ => rfl))) (pe_ix ix_tup (pv 0) pe_int (fun _ _ => rfl)))))), ?_⟩
    exact ⟨_, rfl, p1, _, 0, .int a.1, rfl, rfl, sq_tup h1, rfl, _, rfl, _, rfl, p1, _, 1, .int a.2, rfl, rfl, sq_tup h1, rfl, _, _, rfl, rfl, d24 sa, _, rfl, q⟩
end
end M02

namespace M02
open PySem PySem.Spec PyProof.Rows L2 SX
open C8 (Cal pe_c pe_gc pss_cut)
/-- a value, and whether it is a fraction -/
inductive OdV (K : PySem.W.Frag) (H : Hp) : V → Bool → Prop where
  | no {v : V} {t : Value} (ty : TyE K H v t) (k : PySem.W.kitOne K t (.type "tuple") = some false) : OdV K H v false
  | len {p : Addr} {xs : List V} (e : H p = some (.tup xs)) (n : xs.length ≠ 2) (l : xs.length ≤ 1000) : OdV K H (.ref p) false
  | parts {p : Addr} {x y : V} {b1 b2 : Bool} (e : H p = some (.tup [x, y])) (w1 : WhV K H x b1) (w2 : WhV K H y b2) (n : (b1 && b2) = false) : OdV K H (.ref p) false
  | nums {p : Addr} {q : Q} (e : H p = some (tpl q)) (s1 : q.1.natAbs < 2 ^ 8000) (s2 : q.2.natAbs < 2 ^ 8000) : OdV K H (.ref p) (decide (0 < q.2) && decide (Nat.gcd q.1.natAbs q.2.natAbs = 1))
section
variable {P : Program} {w : World} {K : PySem.W.Frag} {mg : Str → Option Value} {base : Heap}
abbrev s_is_fraction : Stmt := topS 9
abbrev n_is_fraction : List Str := ["value", "top", "bottom"]
theorem sc_is_fraction : FnScope n_is_fraction ["value"] (defScope s_is_fraction) := ⟨rfl, rfl, rfl, by decide +kernel, rfl, by decide +kernel, by decide +kernel⟩
def spIsFr (K : PySem.W.Frag) : Sp := fun vs H Q _ => ∃ (v : V) (b : Bool), vs = [v] ∧ OdV K H v b ∧ Q (.bl b) H
theorem ok_is_fraction {f : Addr} {fd : FuncData} (F : Fun K "is_fraction" "is_fraction" s_is_fraction f fd) (T : Txt K mg) (c_is_whole : Cal P w K mg base 1 "is_whole" (spWh K) []) : FnOk P w K mg base CX0 2 f fd ["value"] (spIsFr K) := by
  refine F.ok sc_is_fraction (fun vs H Q E h => ?_) (fun cdv A outer s H vs Q E hr h => ?_)
  · obtain ⟨x, b, rfl, _⟩ := h
    rfl
  · obtain ⟨v, b, rfl, o, q⟩ := h
    refine ⟨_, (pss_cons (ps_if (PW.pt (pw_or (pt_not (pt_val (pe_callB call_isE (by rfl) T.b_isinstance (by decide +kernel) (pa_cons (pv 0) (pa_cons (pe_bltn (v := .ty "tuple") (by rfl) T.b_tuple boot_tuple rfl) pa_nil))))) (pw_or1 (pt_cmpR op_ne (pe_callB call_len_seq (by rfl) T.b_len (by decide +kernel) (pa_cons (pv 0) pa_nil)) pe_int (nomark _))))) (pss_one (ps_ret pe_bl)) pss_nil)
      (pss_cons (ps_asg (pv 0) (pg_tup rfl (pgs_cons (pg_name (i := 1) sc_is_fraction.nd rfl (.inl rfl)) (pgs_cons (pg_name (i := 2) sc_is_fraction.nd rfl (.inl rfl)) pgs_nil))))
      (pss_cons (ps_if (PW.pt (pw_or (pt_not (pt_val (pe_c c_is_whole hr (by decide) (by rfl) (pa_cons (pv 1) pa_nil)))) (pw_or1 (pt_not (pt_val (pe_c c_is_whole hr (by decide) (by rfl) (pa_cons (pv 2) pa_nil))))))) (pss_one (ps_ret pe_bl)) pss_nil)
      (pss_one (ps_ret (pe_and (pe_cmpR op_gt (pv 2) pe_int (nomark _)) (pe_one (pe_cmpR op_eq (pe_callBfun cr_gcd (by rfl) T.g_gcd (pa_cons (pv 1) (pa_cons (pv 2) pa_nil))) pe_int (nomark _))))))))), ?_⟩
    cases o with
    | no ty k => exact ⟨_, rfl, v, _, "tuple", false, rfl, ty, k, false, rfl, iteT (iteT q)⟩
    | @len p xs e n l =>
      refine ⟨_, rfl, .ref p, .type "tuple", "tuple", true, rfl, .base (.base (.tup e)), by rfl, true, rfl, iteF ⟨_, rfl, p, xs, rfl, .inr (sq_tup e), rfl, _, rfl, ite2 (fun _ => q) (fun h => ?_)⟩⟩
      refine absurd ?_ h
      rw [Bool.not_eq_true', decide_eq_false_iff_not]
      exact fun z => n (by have := V.int.inj z; omega)
    | @parts p x y b1 b2 e w1 w2 n =>
      refine ⟨_, rfl, .ref p, .type "tuple", "tuple", true, rfl, .base (.base (.tup e)), by rfl, true, rfl, iteF ⟨_, rfl, p, _, rfl, .inr (sq_tup e), rfl, _, rfl, iteNS rfl ?_⟩⟩
      refine ⟨_, rfl, p, _, rfl, sq_tup e, rfl, _, _, rfl, _, _, rfl, rfl, _, rfl, x, b1, rfl, w1, b1, rfl, ?_⟩
      cases b1 with
      | false => exact iteT (iteT q)
      | true =>
        have n : b2 = false := n
        subst n
        exact iteF ⟨_, rfl, y, false, rfl, w2, false, rfl, iteT q⟩
    | @nums p a e s1 s2 =>
      refine ⟨_, rfl, .ref p, .type "tuple", "tuple", true, rfl, .base (.base (.tup e)), by rfl, true, rfl, iteF ⟨_, rfl, p, _, rfl, .inr (sq_tup e), rfl, _, rfl, iteNS rfl ?_⟩⟩
      refine ⟨_, rfl, p, _, rfl, sq_tup e, rfl, _, _, rfl, _, _, rfl, rfl, _, rfl, .int a.1, true, rfl, .int _, true, rfl, iteF ⟨_, rfl, .int a.2, true, rfl, .int _, true, rfl, iteF ?_⟩⟩
      refine ⟨_, rfl, _, _, rfl, rfl, _, rfl, ite2 (fun h => ?_) (fun h => ?_)⟩
      · refine ⟨_, rfl, _, rfl, _, _, rfl, rfl, ?_⟩
        rw [h, Bool.true_and] at q
        have e2 : decide (V.int ((Nat.gcd a.1.natAbs a.2.natAbs : Nat) : Int) = V.int 1) = decide (Nat.gcd a.1.natAbs a.2.natAbs = 1) :=
          decide_eq_decide.mpr ⟨fun z => by have := V.int.inj z; omega, fun z => by rw [z]; rfl⟩
        rw [e2]; exact q
      · rw [Bool.not_eq_true] at h
        rw [h, Bool.false_and] at q
        exact q
/-- fractions one by one -/
inductive FrL (H : Hp) : List V → List Q → Prop where
  | nil : FrL H [] []
  | cons {v : V} {q : Q} {vs : List V} {qs : List Q} (h : FrV H v q) (t : FrL H vs qs) : FrL H (v :: vs) (q :: qs)
theorem FrL.same {H H' : Hp} {vs : List V} {qs : List Q} (h : FrL H vs qs) (s : Same H H') : FrL H' vs qs := by
  induction h with
  | nil => exact .nil
  | cons a _ ih => exact .cons (a.same s) ih
theorem FrL.len {H : Hp} {vs : List V} {qs : List Q} (h : FrL H vs qs) : vs.length = qs.length := by
  induction h with
  | nil => rfl
  | cons _ _ ih => simp [ih]
theorem FrL.at_ {H : Hp} {vs : List V} {qs : List Q} (h : FrL H vs qs) : ∀ {i : Nat} {v : V}, vs[i]? = some v → ∃ q, qs[i]? = some q ∧ FrV H v q := by
  induction h with
  | nil => intro i v e; simp at e
  | cons a _ ih =>
    intro i v e
    cases i with
    | zero => simp at e; subst e; exact ⟨_, rfl, a⟩
    | succ i => simp at e; simpa using ih e
/-- the chosen one of some fractions; le: its relation to the others -/
def spBest (CR : Addr) (le : Q → Q → Prop) : Sp := fun vs H Q E => ∃ (p : Addr) (xs : List V) (qs : List M02.Q), vs = [.ref p] ∧ H p = some (.tup xs) ∧ FrL H xs qs ∧ (∀ q ∈ qs, SmQ q) ∧ qs.length ≤ 1000 ∧
  (qs ≠ [] → ∀ (i : Nat) (v : V) (q : M02.Q), xs[i]? = some v → qs[i]? = some q → (∀ r ∈ qs, le q r) → Q v H) ∧ (qs = [] → ∀ d H2, Same H H2 → H2 d = some (.xd [("word", .str "none")]) → E (.ref CR) (some d) H2)
abbrev s_least_of : Stmt := topS 15
abbrev n_least_of : List Str := ["some", "least", "value"]
theorem sc_least_of : FnScope n_least_of ["some"] (defScope s_least_of) := ⟨rfl, rfl, rfl, by decide +kernel, rfl, by decide +kernel, by decide +kernel⟩
theorem ok_least_of {f CR : Addr} {fd : FuncData} (F : Fun K "least_of" "least_of" s_least_of f fd) (T : Txt K mg) (c_is_less : Cal P w K mg base 1 "is_less" spLess []) (e_Refused : ExK P w K mg base "Refused" CR) : FnOk P w K mg base (L2.CX P w) 3 f fd ["some"] (spBest CR leQ) := by
  refine F.okX sc_least_of (fun vs H Q E h => ?_) (fun cdv A outer s H vs Q E hr h => ?_)
  · obtain ⟨p, xs, qs, rfl, _⟩ := h
    rfl
  · obtain ⟨p, xs, qs, rfl, hp, fl, sm, ln, q0, q1⟩ := h
    refine ⟨_, (pss_cons (ps_if (pt_not (pt_truth (pv 0) (by intro _; rfl))) (pss_one (ps_raiseE rfl (takes_of rfl rfl rfl rfl) e_Refused hr (by decide) (by rfl) pe_str)) pss_nil)
      (pss_cons (ps_set (i := 1) sc_least_of.nd rfl (.inl rfl) (pe_ix ix_tup (pv 0) pe_int (fun _ _ => rfl)))
      (pss_cons (ps_for (passes_of rfl) rfl (pi_tup (pv 0)) (pg_name (i := 2) sc_least_of.nd rfl (.inl rfl)) (pss_one (ps_if (pt_val (pe_c c_is_less hr (by decide) (by rfl) (pa_cons (pv 2) (pa_cons (pv 1) pa_nil)))) (pss_one (ps_set (i := 1) sc_least_of.nd rfl (.inl rfl) (pv 2))) pss_nil)))
      (pss_one (ps_ret (pv 1)))))), ?_⟩
    refine ⟨_, rfl, _, .inr (.inl ⟨xs, sq_tup hp, rfl⟩), ?_⟩
    cases fl with
    | nil => exact iteT (mkE_of e_Refused.oex e_Refused.noW fun d H2 s e => q1 rfl d H2 s e)
    | @cons v0 a0 vs as hv ht =>
      have fl : FrL H (v0 :: vs) (a0 :: as) := .cons hv ht
      refine iteF ?_
      refine ⟨_, rfl, p, _, 0, v0, rfl, rfl, sq_tup hp, atI_nat (j := 0) rfl, ?_⟩
      refine ⟨_, rfl, p, rfl, ⟨_, sq_tup hp⟩, for_tup (K := K) (a := p) (xs := v0 :: vs) (fun i σ H' => ∃ (y : Option V) (u : V) (q : M02.Q) (j : Nat), σ = [some (.ref p), some u, y] ∧ H' = H ∧ (v0 :: vs)[j]? = some u ∧ (a0 :: as)[j]? = some q ∧ FrV H u q ∧ q ∈ a0 :: as ∧ ∀ r ∈ (a0 :: as).take i, leQ q r)
        ⟨none, v0, a0, 0, rfl, rfl, rfl, rfl, hv, List.mem_cons_self .., fun r hr => by simp at hr⟩ (fun i σ H' _ h => ?_) (fun i x σ H' hx h => ?_) (fun σ H' h => ?_)⟩
      · obtain ⟨y, u, q, j, rfl, rfl, _⟩ := h
        exact sq_tup hp
      · obtain ⟨y, u, q, j, rfl, rfl, ju, jq, fu, mq, all⟩ := h
        obtain ⟨qx, hqx, fx⟩ := fl.at_ hx
        have mx : qx ∈ a0 :: as := List.mem_of_getElem? hqx
        refine ⟨_, rfl, _, rfl, x, u, qx, q, rfl, fx, fu, sm _ mx, sm _ mq, _, rfl, ite2 (fun hl => ?_) (fun hl => ?_)⟩
        · have hl := of_decide_eq_true hl
          refine ⟨_, rfl, _, x, qx, i, rfl, rfl, hx, hqx, fx, mx, fun r hr => ?_⟩
          rw [take_at hqx] at hr
          rcases List.mem_append.mp hr with hr | hr
          · exact leQ_trans (sm _ mx).pos (sm _ mq).pos (sm _ (List.mem_of_mem_take hr)).pos (Int.le_of_lt hl) (all r hr)
          · rw [List.mem_singleton.mp hr]; exact leQ_refl _
        · refine ⟨_, u, q, j, rfl, rfl, ju, jq, fu, mq, fun r hr => ?_⟩
          rw [take_at hqx] at hr
          rcases List.mem_append.mp hr with hr | hr
          · exact all r hr
          · rw [List.mem_singleton.mp hr]
            have := of_decide_eq_false (Bool.not_eq_true _ ▸ hl)
            exact Int.not_lt.mp this
      · obtain ⟨y, u, q, j, rfl, rfl, ju, jq, fu, mq, all⟩ := h
        refine ⟨_, rfl, q0 (by simp) j u q ju jq fun r hr => all r ?_⟩
        rw [List.take_of_length_le (by rw [fl.len]; exact Nat.le_refl _)]
        exact hr
abbrev s_greatest_of : Stmt := topS 16
abbrev n_greatest_of : List Str := ["some", "greatest", "value"]
theorem sc_greatest_of : FnScope n_greatest_of ["some"] (defScope s_greatest_of) := ⟨rfl, rfl, rfl, by decide +kernel, rfl, by decide +kernel, by decide +kernel⟩
theorem ok_greatest_of {f CR : Addr} {fd : FuncData} (F : Fun K "greatest_of" "greatest_of" s_greatest_of f fd) (T : Txt K mg) (c_is_less : Cal P w K mg base 1 "is_less" spLess []) (e_Refused : ExK P w K mg base "Refused" CR) : FnOk P w K mg base (L2.CX P w) 3 f fd ["some"] (spBest CR fun q r => leQ r q) := by
  refine F.okX sc_greatest_of (fun vs H Q E h => ?_) (fun cdv A outer s H vs Q E hr h => ?_)
  · obtain ⟨p, xs, qs, rfl, _⟩ := h
    rfl
  · obtain ⟨p, xs, qs, rfl, hp, fl, sm, ln, q0, q1⟩ := h
    refine ⟨_, (pss_cons (ps_if (pt_not (pt_truth (pv 0) (by intro _; rfl))) (pss_one (ps_raiseE rfl (takes_of rfl rfl rfl rfl) e_Refused hr (by decide) (by rfl) pe_str)) pss_nil)
      (pss_cons (ps_set (i := 1) sc_greatest_of.nd rfl (.inl rfl) (pe_ix ix_tup (pv 0) pe_int (fun _ _ => rfl)))
      (pss_cons (ps_for (passes_of rfl) rfl (pi_tup (pv 0)) (pg_name (i := 2) sc_greatest_of.nd rfl (.inl rfl)) (pss_one (ps_if (pt_val (pe_c c_is_less hr (by decide) (by rfl) (pa_cons (pv 1) (pa_cons (pv 2) pa_nil)))) (pss_one (ps_set (i := 1) sc_greatest_of.nd rfl (.inl rfl) (pv 2))) pss_nil)))
      (pss_one (ps_ret (pv 1)))))), ?_⟩
    refine ⟨_, rfl, _, .inr (.inl ⟨xs, sq_tup hp, rfl⟩), ?_⟩
    cases fl with
    | nil => exact iteT (mkE_of e_Refused.oex e_Refused.noW fun d H2 s e => q1 rfl d H2 s e)
    | @cons v0 a0 vs as hv ht =>
      have fl : FrL H (v0 :: vs) (a0 :: as) := .cons hv ht
      refine iteF ?_
      refine ⟨_, rfl, p, _, 0, v0, rfl, rfl, sq_tup hp, atI_nat (j := 0) rfl, ?_⟩
      refine ⟨_, rfl, p, rfl, ⟨_, sq_tup hp⟩, for_tup (K := K) (a := p) (xs := v0 :: vs) (fun i σ H' => ∃ (y : Option V) (u : V) (q : M02.Q) (j : Nat), σ = [some (.ref p), some u, y] ∧ H' = H ∧ (v0 :: vs)[j]? = some u ∧ (a0 :: as)[j]? = some q ∧ FrV H u q ∧ q ∈ a0 :: as ∧ ∀ r ∈ (a0 :: as).take i, leQ r q)
        ⟨none, v0, a0, 0, rfl, rfl, rfl, rfl, hv, List.mem_cons_self .., fun r hr => by simp at hr⟩ (fun i σ H' _ h => ?_) (fun i x σ H' hx h => ?_) (fun σ H' h => ?_)⟩
      · obtain ⟨y, u, q, j, rfl, rfl, _⟩ := h
        exact sq_tup hp
      · obtain ⟨y, u, q, j, rfl, rfl, ju, jq, fu, mq, all⟩ := h
        obtain ⟨qx, hqx, fx⟩ := fl.at_ hx
        have mx : qx ∈ a0 :: as := List.mem_of_getElem? hqx
        refine ⟨_, rfl, _, rfl, u, x, q, qx, rfl, fu, fx, sm _ mq, sm _ mx, _, rfl, ite2 (fun hl => ?_) (fun hl => ?_)⟩
        · have hl := of_decide_eq_true hl
          refine ⟨_, rfl, _, x, qx, i, rfl, rfl, hx, hqx, fx, mx, fun r hr => ?_⟩
          rw [take_at hqx] at hr
          rcases List.mem_append.mp hr with hr | hr
          · exact leQ_trans (sm _ (List.mem_of_mem_take hr)).pos (sm _ mq).pos (sm _ mx).pos (all r hr) (Int.le_of_lt hl)
          · rw [List.mem_singleton.mp hr]; exact leQ_refl _
        · refine ⟨_, u, q, j, rfl, rfl, ju, jq, fu, mq, fun r hr => ?_⟩
          rw [take_at hqx] at hr
          rcases List.mem_append.mp hr with hr | hr
          · exact all r hr
          · rw [List.mem_singleton.mp hr]
            have := of_decide_eq_false (Bool.not_eq_true _ ▸ hl)
            exact Int.not_lt.mp this
      · obtain ⟨y, u, q, j, rfl, rfl, ju, jq, fu, mq, all⟩ := h
        refine ⟨_, rfl, q0 (by simp) j u q ju jq fun r hr => all r ?_⟩
        rw [List.take_of_length_le (by rw [fl.len]; exact Nat.le_refl _)]
        exact hr
abbrev s_weighed : Stmt := topS 19
abbrev n_weighed : List Str := ["coefficients", "point", "top", "bottom", "coefficient", "value", "shared"]
theorem sc_weighed : FnScope n_weighed ["coefficients", "point"] (defScope s_weighed) := ⟨rfl, rfl, rfl, by decide +kernel, rfl, by decide +kernel, by decide +kernel⟩
def spWei : Sp := fun vs H Q E => ∃ (p1 p2 : Addr) (cs : List Int) (xs : List V) (qs : List M02.Q), vs = [.ref p1, .ref p2] ∧ H p1 = some (.tup (cs.map V.int)) ∧ H p2 = some (.tup xs) ∧ FrL H xs qs ∧ (∀ q ∈ qs, SmQ q) ∧ (∀ c ∈ cs, c.natAbs < 2 ^ 24) ∧ qs.length = cs.length ∧ qs.length ≤ 6 ∧
  ∀ H' p, Same H H' → H p = none → H' p = some (tpl (frac (wsum (cs.zip qs) (0, 1)).1 (wsum (cs.zip qs) (0, 1)).2)) → Q (.ref p) H'
theorem ok_weighed {f CN : Addr} {fd : FuncData} (F : Fun K "weighed" "weighed" s_weighed f fd) (T : Txt K mg) (x_fraction_of : CalX P w K mg base 3 "fraction_of" (spFrac CN)) : FnOk P w K mg base CX0 4 f fd ["coefficients", "point"] spWei := by
  refine F.ok sc_weighed (fun vs H Q E h => ?_) (fun cdv A outer s H vs Q E hr h => ?_)
  · obtain ⟨p1, p2, cs, xs, qs, rfl, _⟩ := h
    rfl
  · obtain ⟨p1, p2, cs, xs, qs, rfl, h1, h2, fl, sm, sc, le, ln, k⟩ := h
    refine ⟨_, (pss_cons (ps_asg (pe_tup (pa_cons pe_int (pa_cons pe_int pa_nil))) (pg_tup rfl (pgs_cons (pg_name (i := 2) sc_weighed.nd rfl (.inl rfl)) (pgs_cons (pg_name (i := 3) sc_weighed.nd rfl (.inl rfl)) pgs_nil))))
      (pss_cons (ps_for PassesOwn.never rfl (RZ.pi_zipA (by rfl) T.b_zip (pa_cons (pv 0) (pa_cons (pv 1) pa_nil))) (pg_tup rfl (pgs_cons (pg_name (i := 4) sc_weighed.nd rfl (.inl rfl)) (pgs_cons (pg_name (i := 5) sc_weighed.nd rfl (.inl rfl)) pgs_nil))) (pss_cons (ps_if (pt_cmpR op_eq (pv 4) pe_int (nomark _)) (pss_one ps_continue) pss_nil)
        (pss_cons (ps_if (pt_cmpR op_ne (pe_ix ix_tup (pv 5) pe_int (fun _ _ => rfl)) (pv 3) (nomark _)) (pss_cons (ps_set (i := 6) sc_weighed.nd rfl (.inl rfl) (pe_callBfun cr_gcd (by rfl) T.g_gcd (pa_cons (pv 3) (pa_cons (pe_ix ix_tup (pv 5) pe_int (fun _ _ => rfl)) pa_nil))))
          (pss_cons (ps_set (i := 2) sc_weighed.nd rfl (.inl rfl) (pe_op op_mul (pv 2) (pe_op op_fdiv (pe_ix ix_tup (pv 5) pe_int (fun _ _ => rfl)) (pv 6))))
          (pss_one (ps_set (i := 3) sc_weighed.nd rfl (.inl rfl) (pe_op op_mul (pv 3) (pe_op op_fdiv (pe_ix ix_tup (pv 5) pe_int (fun _ _ => rfl)) (pv 6))))))) pss_nil)
        (pss_one (ps_aug (i := 2) sc_weighed.nd rfl (.inl rfl) (pe_op op_mul (pe_op op_mul (pv 4) (pe_ix ix_tup (pv 5) pe_int (fun _ _ => rfl))) (pe_op op_fdiv (pv 3) (pe_ix ix_tup (pv 5) pe_int (fun _ _ => rfl)))) ip_add)))))
      (pss_one (ps_ret (pe_x x_fraction_of hr (by decide) (by rfl) (pa_cons (pv 2) (pa_cons (pv 3) pa_nil))))))), ?_⟩
    have P6 : ∀ i, i ≤ 6 → (2 ^ 80) ^ i < 2 ^ 8000 := fun i hi => by
      rw [← Nat.pow_mul]; exact Nat.pow_lt_pow_right (by decide) (by omega)
    refine ⟨two_ok, fun D nD => ⟨D, _, rfl, sq_tup upd_same, rfl, _, _, rfl, _, _, rfl, rfl, ?_⟩⟩
    have s1 : Same H (upd H D (.tup [.int 0, .int 1])) := same_upd nD
    have hl : (cs.map V.int).length = xs.length := by rw [List.length_map, fl.len, le]
    refine ⟨_, rfl, _, rfl, p1, p2, _, _, rfl, .inr ⟨sq_tup (s1 _ _ h1), sq_tup (s1 _ _ h2), RZ.for_zipT (K := K) (a := p1) (b := p2) (xs := cs.map V.int) (ys := xs) hl
      (fun i σ H' => ∃ (s : M02.Q) (y4 y5 y6 : Option V), σ = [some (.ref p1), some (.ref p2), some (.int s.1), some (.int s.2), y4, y5, y6] ∧ Same H H' ∧ s = wsum ((cs.zip qs).take i) (0, 1) ∧ 0 < s.2 ∧ s.1.natAbs ≤ (2 ^ 80) ^ i ∧ s.2.natAbs ≤ (2 ^ 80) ^ i)
      ⟨(0, 1), _, _, _, rfl, s1, rfl, by decide, by decide, by decide⟩ (fun i σ H' h => ?_) (fun i x y T σ H' hx hy h nT => ?_) (fun σ H' h => ?_)⟩⟩
    · obtain ⟨s, y4, y5, y6, rfl, sH, _⟩ := h
      exact ⟨sq_tup (sH _ _ h1), sq_tup (sH _ _ h2)⟩
    · obtain ⟨s, y4, y5, y6, rfl, sH, es, s0, b1, b2⟩ := h
      have sT : Same H (upd H' T (.tup [x, y])) := same_at sH (sH.free nT)
      obtain ⟨v, hv, py, rfl, fy0⟩ := fl.at_ hy
      have fy := sT _ _ fy0
      rw [List.getElem?_map] at hx
      obtain ⟨c, hc, rfl⟩ := Option.map_eq_some_iff.mp hx
      have sv := sm v (List.mem_of_getElem? hv)
      have cc := sc c (List.mem_of_getElem? hc)
      have step : wst s c v = wsum ((cs.zip qs).take (i + 1)) (0, 1) := by rw [take_at (zip_at hc hv), wsum_snoc, ← es]
      have bnd := wst_bound c s0 sv.pos b1 b2 cc sv.top sv.bot
      have pos := wst_pos c s0 sv.pos
      rw [← Nat.pow_succ] at bnd
      refine ⟨T, _, rfl, sq_tup upd_same, rfl, _, _, rfl, _, _, rfl, rfl, ?_⟩
      refine ⟨_, rfl, rfl, _, rfl, ite2 (fun hz => ?_) (fun hz => ?_)⟩
      · have hz : c = 0 := V.int.inj (of_decide_eq_true hz)
        subst hz
        exact ⟨wst s 0 v, _, _, _, rfl, sT, step, pos, bnd.1, bnd.2⟩
      · have hz : c ≠ 0 := fun z => hz (decide_eq_true (by rw [z]))
        have ew : wst s c v = (s.1 * (if v.2 = s.2 then 1 else v.2 / ((Nat.gcd s.2.natAbs v.2.natAbs : Nat) : Int)) + c * v.1 * (s.2 * (if v.2 = s.2 then 1 else v.2 / ((Nat.gcd s.2.natAbs v.2.natAbs : Nat) : Int)) / v.2), s.2 * (if v.2 = s.2 then 1 else v.2 / ((Nat.gcd s.2.natAbs v.2.natAbs : Nat) : Int))) := by
          unfold wst; rw [if_neg hz]
        have cv : -(2 : Int) ^ 64 < c * v.1 ∧ c * v.1 < 2 ^ 64 := by
          have := wide_lt cc sv.top
          have e1 : (2 : Nat) ^ (24 + 24) = 281474976710656 := by decide
          have e2 : (2 : Int) ^ 64 = 18446744073709551616 := by decide
          rw [e1] at this; rw [e2]; omega
        refine ⟨_, rfl, py, _, 1, .int v.2, rfl, rfl, sq_tup fy, rfl, _, rfl, rfl, _, rfl, ite2 (fun hn => ?_) (fun hn => ?_)⟩
        · have hn : ¬ v.2 = s.2 := fun z => by rw [z] at hn; simp at hn
          rw [if_neg hn] at ew
          have gp : 0 < Nat.gcd s.2.natAbs v.2.natAbs := Nat.gcd_pos_of_pos_right _ (by have := sv.pos; omega)
          have gl : Nat.gcd s.2.natAbs v.2.natAbs ≤ v.2.natAbs := Nat.gcd_le_right _ (by have := sv.pos; omega)
          have d := d24 sv
          have cd : CDiv v.2 ((Nat.gcd s.2.natAbs v.2.natAbs : Nat) : Int) := ⟨by omega, by omega⟩
          have mb : -(2 : Int) ^ 64 < v.2 / ((Nat.gcd s.2.natAbs v.2.natAbs : Nat) : Int) ∧ v.2 / ((Nat.gcd s.2.natAbs v.2.natAbs : Nat) : Int) < 2 ^ 64 := by
            have m1 : 0 ≤ v.2 / ((Nat.gcd s.2.natAbs v.2.natAbs : Nat) : Int) := Int.ediv_nonneg (by omega) (by omega)
            have m2 : v.2 / ((Nat.gcd s.2.natAbs v.2.natAbs : Nat) : Int) ≤ v.2 := Int.ediv_le_self _ (by omega)
            have e2 : (2 : Int) ^ 64 = 18446744073709551616 := by decide
            rw [e2]; omega
          refine ⟨_, rfl, _, rfl, py, _, 1, .int v.2, rfl, rfl, sq_tup fy, rfl, _, _, rfl, ?_⟩
          refine ⟨_, rfl, _, rfl, py, _, 1, .int v.2, rfl, rfl, sq_tup fy, rfl, _, rfl, _, _, rfl, rfl, cd, _, _, rfl, rfl, .inr mb, ?_⟩
          refine ⟨_, rfl, _, rfl, py, _, 1, .int v.2, rfl, rfl, sq_tup fy, rfl, _, rfl, _, _, rfl, rfl, cd, _, _, rfl, rfl, .inr mb, ?_⟩
          refine ⟨_, rfl, _, rfl, _, rfl, py, _, 0, .int v.1, rfl, rfl, sq_tup fy, rfl, _, _, rfl, rfl, .inr (m40 sv.top), _, rfl, _, rfl, py, _, 1, .int v.2, rfl, rfl, sq_tup fy, rfl, _, _, rfl, rfl, d, _, _, rfl, rfl, .inl cv, _, _, rfl, rfl, ?_⟩
          exact ⟨wst s c v, _, _, _, by rw [ew]; rfl, sT, step, pos, bnd.1, bnd.2⟩
        · have hn : v.2 = s.2 := by simpa using hn
          rw [if_pos hn, Int.mul_one, Int.mul_one] at ew
          refine ⟨_, rfl, _, rfl, _, rfl, py, _, 0, .int v.1, rfl, rfl, sq_tup fy, rfl, _, _, rfl, rfl, .inr (m40 sv.top), _, rfl, _, rfl, py, _, 1, .int v.2, rfl, rfl, sq_tup fy, rfl, _, _, rfl, rfl, d24 sv, _, _, rfl, rfl, .inl cv, _, _, rfl, rfl, ?_⟩
          exact ⟨wst s c v, _, _, _, by rw [ew]; rfl, sT, step, pos, bnd.1, bnd.2⟩
    · obtain ⟨s, y4, y5, y6, rfl, sH, es, s0, b1, b2⟩ := h
      have ez : (cs.zip qs).take (cs.map V.int).length = cs.zip qs := List.take_of_length_le (by rw [List.length_zip, List.length_map]; omega)
      rw [ez] at es
      subst es
      have l6 : (cs.map V.int).length ≤ 6 := by rw [List.length_map]; omega
      exact ⟨_, rfl, _, rfl, _, _, rfl, Nat.lt_of_le_of_lt b2 (P6 _ l6), fun _ p np => k _ p (same_at sH (sH.free np)) (sH.free np) upd_same, fun z => absurd z (by omega)⟩
end
end M02

namespace M02
open PySem PySem.Spec PyProof.Rows L2 SX
open C8 (Cal pe_c pe_gc pss_cut)
/-! ### the source of draws -/
def BoxAt (H : Hp) (b : Addr) : Prop := ∃ g m n : Int, H b = some (.lst [.int g, .int m, .int n])
theorem BoxAt.same {H H' : Hp} {b : Addr} (h : BoxAt H b) (s : Same H H') : BoxAt H' b := by
  obtain ⟨g, m, n, e⟩ := h
  exact ⟨g, m, n, s _ _ e⟩
/-- all but the source stays -/
def Keep (b : Addr) (H H' : Hp) : Prop := ∀ a o, H a = some o → a ≠ b → H' a = some o
theorem Keep.refl (b : Addr) (H : Hp) : Keep b H H := fun _ _ e _ => e
theorem Keep.trans {b : Addr} {H H1 H2 : Hp} (x : Keep b H H1) (y : Keep b H1 H2) : Keep b H H2 := fun a o e n => y a o (x a o e n) n
theorem Keep.of {b : Addr} {H H' : Hp} (s : Same H H') : Keep b H H' := fun a o e _ => s a o e
theorem Keep.at_ {b : Addr} {H : Hp} {o : HO} : Keep b H (upd H b o) := fun a x e n => by rw [upd_ne n]; exact e
theorem BoxAt.ne_of {H : Hp} {b p : Addr} (h : BoxAt H b) (n : H p = none) : p ≠ b := by
  obtain ⟨g, m, k, e⟩ := h
  exact (ne_of_none e n).symm
theorem BoxAt.ne_tup {H : Hp} {b p : Addr} {xs : List V} (h : BoxAt H b) (n : H p = some (.tup xs)) : p ≠ b := by
  obtain ⟨g, m, k, e⟩ := h
  exact M02.ne_of n e (by intro z; cases z)
theorem Keep.seq {K : PySem.W.Frag} {b a : Addr} {H H' : Hp} {xs : List V} (k : Keep b H H') (ne : a ≠ b) (h : SqL K H a xs) : SqL K H' a xs := by
  rcases h with (h | ⟨o, h⟩) | h
  · exact .inl (.inl (k _ _ h ne))
  · exact .inl (.inr ⟨o, k _ _ h ne⟩)
  · exact .inr h
theorem FrV.keep {b : Addr} {H H' : Hp} {v : V} {q : Q} (h : FrV H v q) (x : BoxAt H b) (k : Keep b H H') : FrV H' v q := by
  obtain ⟨p, e, f⟩ := h
  exact ⟨p, e, k _ _ f (x.ne_tup f)⟩
theorem FrL.keep {b : Addr} {H H' : Hp} {vs : List V} {qs : List Q} (h : FrL H vs qs) (x : BoxAt H b) (k : Keep b H H') : FrL H' vs qs := by
  induction h with
  | nil => exact .nil
  | cons a _ ih => exact .cons (a.keep x k) ih
theorem len3 {x y z : V} : [x, y, z].length ≤ sizeLine := by
  rw [sizeLine_eq]
  exact (by decide : 3 ≤ 16777216)
section
variable {P : Program} {w : World} {K : PySem.W.Frag} {mg : Str → Option Value} {base : Heap}
abbrev s_Lbox : Stmt := topS 21
abbrev n_Lbox : List Str := ["script", "k", "cell", "great"]
theorem sc_Lbox : FnScope n_Lbox ["script", "k"] (defScope s_Lbox) := ⟨rfl, rfl, rfl, by decide +kernel, rfl, by decide +kernel, by decide +kernel⟩
def spBox (K : PySem.W.Frag) : Sp := fun vs H Q _ => ∃ (a : Addr) (ns : List Int) (k : Nat), vs = [.ref a, .int (k : Int)] ∧ SqL K H a (ns.map V.int) ∧ ∀ H' p, Same H H' → H p = none → BoxAt H' p → Q (.ref p) H'
theorem ok_Lbox {f : Addr} {fd : FuncData} (F : Fun K "_law_box" "_law_box" s_Lbox f fd) (T : Txt K mg) : FnOk P w K mg base CX0 1 f fd ["script", "k"] (spBox K) := by
  refine F.ok sc_Lbox (fun vs H Q E h => ?_) (fun cdv A outer s H vs Q E hr h => ?_)
  · obtain ⟨a, ns, k, rfl, _⟩ := h
    rfl
  · obtain ⟨a, ns, k, rfl, hS, q⟩ := h
    refine ⟨_, (pss_cons (ps_set (i := 2) sc_Lbox.nd rfl (.inl rfl) (pe_op op_add (pe_op op_mul pe_int (pv 1)) pe_int))
      (pss_cut (ps_if (pt_cmpR op_lt (pv 1) (pe_callB call_len_seq (by rfl) T.b_len (by decide +kernel) (pa_cons (pv 0) pa_nil)) (nomark _)) (pss_one (ps_set (i := 2) sc_Lbox.nd rfl (.inl rfl) (pe_callB call_abs (by rfl) T.b_abs (by decide +kernel) (pa_cons (pe_ix ix_list (pv 0) (pv 1) (fun _ _ => rfl)) pa_nil)))) (pss_one (ps_if (pt_cmpR op_gt (pe_callB call_len_seq (by rfl) T.b_len (by decide +kernel) (pa_cons (pv 0) pa_nil)) pe_int (nomark _)) (pss_one (ps_set (i := 2) sc_Lbox.nd rfl (.inl rfl) (pe_op op_add (pv 2) (pe_op op_mul (pe_op op_mod (pe_callTy call_int1 (by rfl) T.b_int (by decide +kernel) (pa_cons (pe_callB call_abs (by rfl) T.b_abs (by decide +kernel) (pa_cons (pe_ix ix_list (pv 0) (pe_op op_mod (pe_callTy call_int1 (by rfl) T.b_int (by decide +kernel) (pa_cons (pv 1) pa_nil)) (pe_callB call_len_seq (by rfl) T.b_len (by decide +kernel) (pa_cons (pv 0) pa_nil))) (fun _ _ => rfl)) pa_nil)) pa_nil)) pe_int) pe_int)))) pss_nil)))
      (pss_cons (ps_set (i := 3) sc_Lbox.nd rfl (.inl rfl) (pe_callTy call_int1 (by rfl) T.b_int (by decide +kernel) (pa_cons (pe_cmpR op_ge (pv 2) (pe_op op_pow pe_int pe_int) (nomark _)) pa_nil)))
      (pss_one (ps_ret (pe_lst (pa_cons (pe_ix ix_list (pe_lst (pa_cons pe_int (pa_cons (pv 2) pa_nil))) (pv 3) (fun _ _ => rfl)) (pa_cons (pe_op op_add (pe_op op_mod (pe_callTy call_int1 (by rfl) T.b_int (by decide +kernel) (pa_cons (pe_op op_add (pe_op op_add (pe_op op_mul (pe_op op_mod (pe_callTy call_int1 (by rfl) T.b_int (by decide +kernel) (pa_cons (pv 2) pa_nil)) pe_int) pe_int) (pe_op op_mul pe_int (pv 1))) pe_int) pa_nil)) pe_int) pe_int) (pa_cons pe_int pa_nil))))))))), ?_⟩
    refine ⟨_, rfl, _, _, rfl, rfl, .inl ⟨by decide, by decide⟩, _, _, rfl, rfl, ?_⟩
    refine ⟨fun σ H' => ∃ c : Int, σ = [some (.ref a), some (.int (k : Int)), some (.int c), none] ∧ H' = H, ?_, fun σ H' hM => ?_⟩
    · refine ⟨_, rfl, _, rfl, a, _, rfl, .inl hS, _, _, rfl, rfl, _, rfl, ite2 (fun hlt => ?_) (fun hge => ?_)⟩
      · have hlt : k < (ns.map V.int).length := by have := of_decide_eq_true hlt; omega
        have hk : k < ns.length := by rw [List.length_map] at hlt; exact hlt
        refine ⟨_, rfl, _, rfl, a, _, _, .int ns[k], rfl, rfl, hS, atI_nat (by rw [List.getElem?_map, List.getElem?_eq_getElem hk]; rfl), _, rfl, ?_⟩
        exact ⟨_, rfl, rfl⟩
      · refine ⟨_, rfl, a, _, rfl, .inl hS, _, _, rfl, rfl, _, rfl, ite2 (fun h0 => ?_) (fun h0 => ?_)⟩
        · have h0 : 0 < (ns.map V.int).length := by have := of_decide_eq_true h0; omega
          have hj : (k : Int) % ((ns.map V.int).length : Int) = ((k % (ns.map V.int).length : Nat) : Int) := by omega
          have hk : k % (ns.map V.int).length < ns.length := by
            have := Nat.mod_lt k h0
            rw [List.length_map] at this ⊢; exact this
          refine ⟨_, rfl, _, rfl, _, rfl, .inl ⟨_, rfl, _, rfl, a, _, rfl, .inl hS, _, _, rfl, rfl, (by show (0 : Int) < _; omega), a, _, _, .int ns[k % (ns.map V.int).length], rfl, rfl, hS, ?_, _, rfl, .inl ⟨_, rfl, _, _, rfl, rfl, (by show (0 : Int) < _; decide), _, _, rfl, rfl, .inr ⟨by decide, by decide⟩, _, _, rfl, rfl, ?_⟩⟩⟩
          · rw [hj]
            exact atI_nat (by rw [List.getElem?_map, List.getElem?_eq_getElem hk]; rfl)
          · exact ⟨_, rfl, rfl⟩
        · exact ⟨_, rfl, rfl⟩
    · obtain ⟨c, rfl, rfl⟩ := hM
      refine ⟨_, rfl, _, _, rfl, rfl, ⟨by decide, by decide, by decide⟩, _, _, rfl, rfl, .inr ⟨_, rfl, ?_⟩⟩
      refine ⟨_, rfl, two_ok, fun l nl => ?_⟩
      have sl : Same H' (upd H' l (.lst [.int 0, .int c])) := same_upd nl
      refine ⟨_, rfl, l, _, _, .int (if decide (10 ^ (Int.toNat 18) ≤ c) = true then c else 0), rfl, rfl, sq_lst upd_same, ?_, ?_⟩
      · by_cases hc : decide ((10 : Int) ^ (Int.toNat 18) ≤ c) = true
        · rw [if_pos hc, if_pos hc]; exact atI_nat (j := 1) rfl
        · rw [if_neg hc, if_neg hc]; exact atI_nat (j := 0) rfl
      · refine ⟨_, rfl, .inl ⟨_, rfl, _, _, rfl, rfl, (by show (0 : Int) < _; decide), _, _, rfl, rfl, .inr ⟨by decide, by decide⟩, _, rfl, _, _, rfl, rfl, .inl ⟨by decide, by decide⟩, _, _, rfl, rfl, _, _, rfl, rfl, .inl ⟨_, rfl, _, _, rfl, rfl, (by show (0 : Int) < _; decide), _, _, rfl, rfl, len3, fun p np => ?_⟩⟩⟩
        exact q _ p (same_at sl (sl.free np)) (sl.free np) ⟨_, _, _, upd_same⟩
abbrev s_Ltake : Stmt := topS 22
abbrev n_Ltake : List Str := ["box", "many", "digit", "raw"]
theorem sc_Ltake : FnScope n_Ltake ["box", "many"] (defScope s_Ltake) := ⟨rfl, rfl, rfl, by decide +kernel, rfl, by decide +kernel, by decide +kernel⟩
def spTake : Sp := fun vs H Q _ => ∃ (b : Addr) (n : Int), vs = [.ref b, .int n] ∧ BoxAt H b ∧ 0 < n ∧ n < 1073741824 ∧ ∀ d H', 0 ≤ d → d < n → BoxAt H' b → Keep b H H' → Q (.int d) H'
theorem ok_Ltake {f : Addr} {fd : FuncData} (F : Fun K "_law_take" "_law_take" s_Ltake f fd) (T : Txt K mg) : FnOk P w K mg base CX0 1 f fd ["box", "many"] spTake := by
  refine F.ok sc_Ltake (fun vs H Q E h => ?_) (fun cdv A outer s H vs Q E hr h => ?_)
  · obtain ⟨b, n, rfl, _⟩ := h
    rfl
  · obtain ⟨b, n, rfl, ⟨g, m, k, hb⟩, n0, n1, q⟩ := h
    refine ⟨_, (pss_cons (ps_if (pt_cmpR op_gt (pe_ix ix_list (pv 0) pe_int (fun _ _ => rfl)) pe_int (nomark _)) (pss_cons (ps_set (i := 2) sc_Ltake.nd rfl (.inl rfl) (pe_op op_mod (pe_callTy call_int1 (by rfl) T.b_int (by decide +kernel) (pa_cons (pe_ix ix_list (pv 0) pe_int (fun _ _ => rfl)) pa_nil)) (pv 1)))
        (pss_cons (ps_asg (pe_op op_fdiv (pe_ix ix_list (pv 0) pe_int (fun _ _ => rfl)) (pv 1)) (pg_sub (pv 0) pe_int set_list))
        (pss_one (ps_ret (pv 2))))) pss_nil)
      (pss_cons (ps_asg (pe_op op_add (pe_ix ix_list (pv 0) pe_int (fun _ _ => rfl)) pe_int) (pg_sub (pv 0) pe_int set_list))
      (pss_cons (ps_set (i := 3) sc_Ltake.nd rfl (.inl rfl) (pe_op op_mod (pe_callTy call_int1 (by rfl) T.b_int (by decide +kernel) (pa_cons (pe_op op_add (pe_op op_mul (pe_op op_add (pe_ix ix_list (pv 0) pe_int (fun _ _ => rfl)) (pe_op op_mul pe_int (pe_ix ix_list (pv 0) pe_int (fun _ _ => rfl)))) pe_int) pe_int) pa_nil)) pe_int))
      (pss_cons (ps_asg (pe_op op_add (pe_op op_mod (pe_callTy call_int1 (by rfl) T.b_int (by decide +kernel) (pa_cons (pe_op op_add (pe_op op_mul (pv 3) pe_int) pe_int) pa_nil)) pe_int) pe_int) (pg_sub (pv 0) pe_int set_list))
      (pss_one (ps_ret (pe_op op_mod (pe_callTy call_int1 (by rfl) T.b_int (by decide +kernel) (pa_cons (pe_op op_fdiv (pe_op op_add (pe_op op_mul (pv 3) pe_int) (pe_ix ix_list (pv 0) pe_int (fun _ _ => rfl))) pe_int) pa_nil)) (pv 1)))))))), ?_⟩
    refine ⟨_, rfl, b, _, 0, .int g, rfl, rfl, sq_lst hb, rfl, _, _, rfl, rfl, _, rfl, ite2 (fun hz => ?_) (fun hz => ?_)⟩
    · refine ⟨_, rfl, b, _, 0, .int g, rfl, rfl, sq_lst hb, rfl, .inl ⟨_, rfl, _, rfl, _, _, rfl, rfl, n0, ?_⟩⟩
      refine ⟨_, rfl, b, _, 0, .int g, rfl, rfl, sq_lst hb, rfl, _, rfl, _, _, rfl, rfl, ⟨n0, n1⟩, _, rfl, b, _, 0, 0, rfl, rfl, hb, rfl, ?_⟩
      exact ⟨_, rfl, q _ _ (Int.emod_nonneg _ (by omega)) (Int.emod_lt_of_pos _ n0) ⟨_, _, _, upd_same⟩ .at_⟩
    · refine ⟨_, rfl, b, _, 2, .int k, rfl, rfl, sq_lst hb, rfl, _, _, rfl, rfl, _, rfl, b, _, 2, 2, rfl, rfl, hb, rfl, ?_⟩
      have h1 : upd H b (.lst [.int g, .int m, .int (k + 1)]) b = some (.lst [.int g, .int m, .int (k + 1)]) := upd_same
      refine ⟨_, rfl, b, _, 1, .int m, rfl, rfl, sq_lst h1, rfl, _, rfl, b, _, 2, .int (k + 1), rfl, rfl, sq_lst h1, rfl, _, _, rfl, rfl, .inl ⟨by decide, by decide⟩, _, _, rfl, rfl, _, _, rfl, rfl, .inr ⟨by decide, by decide⟩, _, _, rfl, rfl, .inl ⟨_, rfl, _, _, rfl, rfl, (by show (0 : Int) < _; decide), ?_⟩⟩
      refine ⟨_, rfl, _, _, rfl, rfl, .inr ⟨by decide, by decide⟩, _, _, rfl, rfl, .inl ⟨_, rfl, _, _, rfl, rfl, (by show (0 : Int) < _; decide), _, _, rfl, rfl, _, rfl, b, _, 1, 1, rfl, rfl, h1, rfl, ?_⟩⟩
      refine ⟨_, rfl, _, _, rfl, rfl, .inr ⟨by decide, by decide⟩, _, rfl, b, _, 1, _, rfl, rfl, sq_lst upd_same, rfl, _, _, rfl, rfl, _, _, rfl, rfl, ⟨by decide, by decide⟩, .inl ⟨_, rfl, _, rfl, _, _, rfl, rfl, n0, ?_⟩⟩
      exact q _ _ (Int.emod_nonneg _ (by omega)) (Int.emod_lt_of_pos _ n0) ⟨_, _, _, upd_same⟩ (Keep.at_.trans .at_)
abbrev s_Lpick : Stmt := topS 23
abbrev n_Lpick : List Str := ["box", "some"]
theorem sc_Lpick : FnScope n_Lpick ["box", "some"] (defScope s_Lpick) := ⟨rfl, rfl, rfl, by decide +kernel, rfl, by decide +kernel, by decide +kernel⟩
def spPick (K : PySem.W.Frag) : Sp := fun vs H Q _ => ∃ (b l : Addr) (xs : List V), vs = [.ref b, .ref l] ∧ BoxAt H b ∧ H l = some (.lst xs) ∧ l ≠ b ∧ xs ≠ [] ∧ xs.length ≤ 1000 ∧ ∀ (i : Nat) (v : V) (H' : Hp), xs[i]? = some v → BoxAt H' b → Keep b H H' → Q v H'
theorem ok_Lpick {f : Addr} {fd : FuncData} (F : Fun K "_law_pick" "_law_pick" s_Lpick f fd) (T : Txt K mg) (c_Ltake : Cal P w K mg base 1 "_law_take" spTake []) : FnOk P w K mg base CX0 2 f fd ["box", "some"] (spPick K) := by
  refine F.ok sc_Lpick (fun vs H Q E h => ?_) (fun cdv A outer s H vs Q E hr h => ?_)
  · obtain ⟨b, l, xs, rfl, _⟩ := h
    rfl
  · obtain ⟨b, l, xs, rfl, hb, hl, ne, nx, ln, q⟩ := h
    refine ⟨_, (pss_one (ps_ret (pe_ix ix_list (pv 1) (pe_c c_Ltake hr (by decide) (by rfl) (pa_cons (pv 0) (pa_cons (pe_callB call_len_seq (by rfl) T.b_len (by decide +kernel) (pa_cons (pv 1) pa_nil)) pa_nil))) (fun _ _ => rfl)))), ?_⟩
    have lp : 0 < xs.length := List.length_pos_iff.mpr nx
    refine ⟨_, rfl, _, rfl, _, rfl, l, xs, rfl, .inl (sq_lst hl), b, _, rfl, hb, by omega, by omega, fun d H' d0 d1 hb' kp => ?_⟩
    obtain ⟨j, rfl⟩ := Int.eq_ofNat_of_zero_le d0
    have hj : j < xs.length := by omega
    exact ⟨l, xs, _, xs[j], rfl, rfl, sq_lst (kp _ _ hl ne), atI_nat (List.getElem?_eq_getElem hj), q j _ _ (List.getElem?_eq_getElem hj) hb' kp⟩
end
end M02

namespace M02
open PySem PySem.Spec PyProof.Rows L2 SX
open C8 (Cal pe_c pe_gc pss_cut)
theorem TyOf.same {K : PySem.W.Frag} {H H' : Hp} {x : V} {t : Value} (h : TyOf K H x t) (s : Same H H') : TyOf K H' x t := by
  cases h with
  | non => exact .non
  | bl b => exact .bl b
  | int i => exact .int i
  | str y => exact .str y
  | flt y => exact .flt y
  | lst e => exact .lst (s _ _ e)
  | frz e => exact .frz (s _ _ e)
  | tup e => exact .tup (s _ _ e)
  | dK e => exact .dK (s _ _ e)
  | dT e => exact .dT (s _ _ e)
  | ins e cl ha hn htk hm => exact .ins (s _ _ e) cl ha hn htk hm
theorem TyX.same {K : PySem.W.Frag} {H H' : Hp} {x : V} {t : Value} (h : TyX K H x t) (s : Same H H') : TyX K H' x t := by
  cases h with
  | base h => exact .base (TyOf.same h s)
  | byt b => exact .byt b
  | set e => exact .set (s _ _ e)
  | kList e c => exact .kList e c
  | kTuple e c => exact .kTuple e c
  | kDict e c => exact .kDict e c
  | fTuple e => exact .fTuple (s _ _ e)
  | fDict e => exact .fDict (s _ _ e)
theorem TyE.same {K : PySem.W.Frag} {H H' : Hp} {x : V} {t : Value} (h : TyE K H x t) (s : Same H H') : TyE K H' x t := by
  cases h with
  | base h => exact .base (TyX.same h s)
  | exc T e f => exact .exc T (s _ _ e) (s _ _ f)
theorem WhV.same {K : PySem.W.Frag} {H H' : Hp} {x : V} {b : Bool} (h : WhV K H x b) (s : Same H H') : WhV K H' x b := by
  obtain ⟨t, b1, b2, ty, r⟩ := h
  exact ⟨t, b1, b2, ty.same s, r⟩
theorem OdV.same {K : PySem.W.Frag} {H H' : Hp} {x : V} {b : Bool} (h : OdV K H x b) (s : Same H H') : OdV K H' x b := by
  cases h with
  | no ty k => exact .no (ty.same s) k
  | len e n l => exact .len (s _ _ e) n l
  | parts e w1 w2 n => exact .parts (s _ _ e) (w1.same s) (w2.same s) n
  | nums e s1 s2 => exact .nums (s _ _ e) s1 s2
theorem len4 {x y z u : V} : [x, y, z, u].length ≤ sizeLine := by
  rw [sizeLine_eq]
  exact (by decide : 4 ≤ 16777216)
section
variable {P : Program} {w : World} {K : PySem.W.Frag} {mg : Str → Option Value} {base : Heap}
abbrev s_Lcommon : Stmt := topS 24
abbrev n_Lcommon : List Str := ["numbers", "found", "item", "one", "other"]
theorem sc_Lcommon : FnScope n_Lcommon ["numbers"] (defScope s_Lcommon) := ⟨rfl, rfl, rfl, by decide +kernel, rfl, by decide +kernel, by decide +kernel⟩
/-- of a list -/
def spComL : Sp := fun vs H Q _ => ∃ (a : Addr) (ns : List Int), vs = [.ref a] ∧ H a = some (.lst (ns.map V.int)) ∧ Q (.int ((gcds 0 ns : Nat) : Int)) H
/-- of a tuple -/
def spComT : Sp := fun vs H Q _ => ∃ (a : Addr) (ns : List Int), vs = [.ref a] ∧ H a = some (.tup (ns.map V.int)) ∧ Q (.int ((gcds 0 ns : Nat) : Int)) H
theorem ok_LcommonL {f : Addr} {fd : FuncData} (F : Fun K "_law_common" "_law_common" s_Lcommon f fd) (T : Txt K mg) : FnOk P w K mg base CX0 1 f fd ["numbers"] spComL := by
  refine F.ok sc_Lcommon (fun vs H Q E h => ?_) (fun cdv A outer s H vs Q E hr h => ?_)
  · obtain ⟨a, ns, rfl, _⟩ := h
    rfl
  · obtain ⟨a, ns, rfl, ha, q⟩ := h
    refine ⟨_, (pss_cons (ps_set (i := 1) sc_Lcommon.nd rfl (.inl rfl) pe_int)
      (pss_cons (ps_for PassesOwn.never rfl (pi_list (pv 0)) (pg_name (i := 2) sc_Lcommon.nd rfl (.inl rfl)) (pss_cons (ps_par (i := 3) (j := 4) (by rfl) sc_Lcommon.nd rfl rfl (by decide) rfl rfl (pa_cons (pv 1) (pa_cons (pe_callB call_abs (by rfl) T.b_abs (by decide +kernel) (pa_cons (pv 2) pa_nil)) pa_nil)) (by rfl))
        (pss_cons (ps_while PassesOwn.never (pt_cmpR op_gt (pv 4) pe_int (nomark _)) (pss_one (ps_par (i := 3) (j := 4) (by rfl) sc_Lcommon.nd rfl rfl (by decide) rfl rfl (pa_cons (pv 4) (pa_cons (pe_op op_mod (pe_callTy call_int1 (by rfl) T.b_int (by decide +kernel) (pa_cons (pv 3) pa_nil)) (pv 4)) pa_nil)) (by rfl))))
        (pss_one (ps_set (i := 1) sc_Lcommon.nd rfl (.inl rfl) (pv 3))))))
      (pss_one (ps_ret (pv 1))))), ?_⟩
    refine ⟨_, rfl, a, rfl, ⟨_, sq_lst ha⟩, for_list (K := K) (a := a) (xs := ns.map V.int)
      (fun i σ H' => ∃ (f : Nat) (y2 y3 y4 : Option V), σ = [some (.ref a), some (.int (f : Int)), y2, y3, y4] ∧ H' = H ∧ f = gcds 0 (ns.take i))
      ⟨0, _, _, _, rfl, rfl, rfl⟩ (fun i σ H' hi h => ?_) (fun i x σ H' hx h => ?_) (fun σ H' h => ?_)⟩
    · obtain ⟨f, y2, y3, y4, rfl, rfl, _⟩ := h
      exact sq_lst ha
    · obtain ⟨f, y2, y3, y4, rfl, rfl, ef⟩ := h
      rw [List.getElem?_map] at hx
      obtain ⟨n, hn, rfl⟩ := Option.map_eq_some_iff.mp hx
      have habs : (if n < 0 then -n else n) = ((n.natAbs : Nat) : Int) := by split <;> omega
      refine ⟨_, rfl, _, rfl, _, rfl, _, _, rfl, ?_⟩
      refine ⟨fun m σ H1 => ∃ u v : Nat, σ = [some (.ref a), some (.int (f : Int)), some (.int n), some (.int (u : Int)), some (.int (v : Int))] ∧ H1 = H' ∧ Nat.gcd u v = Nat.gcd f n.natAbs ∧ m = v, ⟨_, f, n.natAbs, by rw [← habs]; rfl, rfl, rfl, rfl⟩, fun m σ H1 hW => ?_⟩
      obtain ⟨u, v, rfl, rfl, eg, rfl⟩ := hW
      refine ⟨_, rfl, _, _, rfl, rfl, _, rfl, ite2 (fun hp => ?_) (fun hp => ?_)⟩
      · have hp : 0 < m := by have := of_decide_eq_true hp; omega
        refine ⟨fun σ' H' => ∃ m', m' < m ∧ _, fun _ _ z => z, ?_⟩
        exact ⟨_, rfl, _, rfl, .inl ⟨_, rfl, _, rfl, _, _, rfl, rfl, (by show (0 : Int) < _; omega), _, _, rfl, u % m, Nat.mod_lt _ hp, m, u % m, rfl, rfl, by rw [gcd_step]; exact eg, rfl⟩⟩
      · have hp : m = 0 := by
          have h' : ¬ ((0 : Int) < (m : Int)) := fun z => hp (decide_eq_true z)
          omega
        subst hp
        refine ⟨_, rfl, u, _, _, _, rfl, rfl, ?_⟩
        rw [Nat.gcd_zero_right] at eg
        rw [take_at hn, eg, ef]
        unfold gcds
        rw [List.foldl_append]; rfl
    · obtain ⟨f, y2, y3, y4, rfl, rfl, ef⟩ := h
      rw [List.length_map, List.take_length] at ef
      subst ef
      exact ⟨_, rfl, q⟩
theorem ok_LcommonT {f : Addr} {fd : FuncData} (F : Fun K "_law_common" "_law_common" s_Lcommon f fd) (T : Txt K mg) : FnOk P w K mg base CX0 1 f fd ["numbers"] spComT := by
  refine F.ok sc_Lcommon (fun vs H Q E h => ?_) (fun cdv A outer s H vs Q E hr h => ?_)
  · obtain ⟨a, ns, rfl, _⟩ := h
    rfl
  · obtain ⟨a, ns, rfl, ha, q⟩ := h
    refine ⟨_, (pss_cons (ps_set (i := 1) sc_Lcommon.nd rfl (.inl rfl) pe_int)
      (pss_cons (ps_for PassesOwn.never rfl (pi_tup (pv 0)) (pg_name (i := 2) sc_Lcommon.nd rfl (.inl rfl)) (pss_cons (ps_par (i := 3) (j := 4) (by rfl) sc_Lcommon.nd rfl rfl (by decide) rfl rfl (pa_cons (pv 1) (pa_cons (pe_callB call_abs (by rfl) T.b_abs (by decide +kernel) (pa_cons (pv 2) pa_nil)) pa_nil)) (by rfl))
        (pss_cons (ps_while PassesOwn.never (pt_cmpR op_gt (pv 4) pe_int (nomark _)) (pss_one (ps_par (i := 3) (j := 4) (by rfl) sc_Lcommon.nd rfl rfl (by decide) rfl rfl (pa_cons (pv 4) (pa_cons (pe_op op_mod (pe_callTy call_int1 (by rfl) T.b_int (by decide +kernel) (pa_cons (pv 3) pa_nil)) (pv 4)) pa_nil)) (by rfl))))
        (pss_one (ps_set (i := 1) sc_Lcommon.nd rfl (.inl rfl) (pv 3))))))
      (pss_one (ps_ret (pv 1))))), ?_⟩
    refine ⟨_, rfl, a, rfl, ⟨_, sq_tup ha⟩, for_tup (K := K) (a := a) (xs := ns.map V.int)
      (fun i σ H' => ∃ (f : Nat) (y2 y3 y4 : Option V), σ = [some (.ref a), some (.int (f : Int)), y2, y3, y4] ∧ H' = H ∧ f = gcds 0 (ns.take i))
      ⟨0, _, _, _, rfl, rfl, rfl⟩ (fun i σ H' hi h => ?_) (fun i x σ H' hx h => ?_) (fun σ H' h => ?_)⟩
    · obtain ⟨f, y2, y3, y4, rfl, rfl, _⟩ := h
      exact sq_tup ha
    · obtain ⟨f, y2, y3, y4, rfl, rfl, ef⟩ := h
      rw [List.getElem?_map] at hx
      obtain ⟨n, hn, rfl⟩ := Option.map_eq_some_iff.mp hx
      have habs : (if n < 0 then -n else n) = ((n.natAbs : Nat) : Int) := by split <;> omega
      refine ⟨_, rfl, _, rfl, _, rfl, _, _, rfl, ?_⟩
      refine ⟨fun m σ H1 => ∃ u v : Nat, σ = [some (.ref a), some (.int (f : Int)), some (.int n), some (.int (u : Int)), some (.int (v : Int))] ∧ H1 = H' ∧ Nat.gcd u v = Nat.gcd f n.natAbs ∧ m = v, ⟨_, f, n.natAbs, by rw [← habs]; rfl, rfl, rfl, rfl⟩, fun m σ H1 hW => ?_⟩
      obtain ⟨u, v, rfl, rfl, eg, rfl⟩ := hW
      refine ⟨_, rfl, _, _, rfl, rfl, _, rfl, ite2 (fun hp => ?_) (fun hp => ?_)⟩
      · have hp : 0 < m := by have := of_decide_eq_true hp; omega
        refine ⟨fun σ' H' => ∃ m', m' < m ∧ _, fun _ _ z => z, ?_⟩
        exact ⟨_, rfl, _, rfl, .inl ⟨_, rfl, _, rfl, _, _, rfl, rfl, (by show (0 : Int) < _; omega), _, _, rfl, u % m, Nat.mod_lt _ hp, m, u % m, rfl, rfl, by rw [gcd_step]; exact eg, rfl⟩⟩
      · have hp : m = 0 := by
          have h' : ¬ ((0 : Int) < (m : Int)) := fun z => hp (decide_eq_true z)
          omega
        subst hp
        refine ⟨_, rfl, u, _, _, _, rfl, rfl, ?_⟩
        rw [Nat.gcd_zero_right] at eg
        rw [take_at hn, eg, ef]
        unfold gcds
        rw [List.foldl_append]; rfl
    · obtain ⟨f, y2, y3, y4, rfl, rfl, ef⟩ := h
      rw [List.length_map, List.take_length] at ef
      subst ef
      exact ⟨_, rfl, q⟩
abbrev s_Llow : Stmt := topS 25
abbrev n_Llow : List Str := ["top", "bottom", "factor"]
theorem sc_Llow : FnScope n_Llow ["top", "bottom"] (defScope s_Llow) := ⟨rfl, rfl, rfl, by decide +kernel, rfl, by decide +kernel, by decide +kernel⟩
def spLow : Sp := fun vs H Q _ => ∃ (t b : Int), vs = [.int t, .int b] ∧ 0 < b ∧ b.natAbs < 2 ^ 24 ∧ ∀ p H', Same H H' → H p = none → H' p = some (tpl (frac t b)) → Q (.ref p) H'
theorem ok_Llow {f : Addr} {fd : FuncData} (F : Fun K "_law_low" "_law_low" s_Llow f fd) (T : Txt K mg) (c_Lcommon : Cal P w K mg base 1 "_law_common" spComL []) : FnOk P w K mg base CX0 2 f fd ["top", "bottom"] spLow := by
  refine F.ok sc_Llow (fun vs H Q E h => ?_) (fun cdv A outer s H vs Q E hr h => ?_)
  · obtain ⟨t, b, rfl, _⟩ := h
    rfl
  · obtain ⟨t, b, rfl, b0, b24, q⟩ := h
    refine ⟨_, (pss_cons (ps_set (i := 2) sc_Llow.nd rfl (.inl rfl) (pe_c c_Lcommon hr (by decide) (by rfl) (pa_cons (pe_lst (pa_cons (pv 0) (pa_cons (pv 1) pa_nil))) pa_nil)))
      (pss_one (ps_ret (pe_tup (pa_cons (pe_op op_fdiv (pv 0) (pv 2)) (pa_cons (pe_op op_fdiv (pv 1) (pv 2)) pa_nil)))))), ?_⟩
    refine ⟨_, rfl, _, rfl, two_ok, fun l nl => ⟨l, [t, b], rfl, upd_same, ?_⟩⟩
    have eg : gcds 0 [t, b] = Nat.gcd t.natAbs b.natAbs := by
      show Nat.gcd (Nat.gcd 0 t.natAbs) b.natAbs = _
      rw [Nat.gcd_zero_left]
    have gb : Nat.gcd t.natAbs b.natAbs ≤ b.natAbs := Nat.gcd_le_right _ (by omega)
    have gp : 0 < Nat.gcd t.natAbs b.natAbs := Nat.gcd_pos_of_pos_right _ (by omega)
    have e24 : (2 : Nat) ^ 24 = 16777216 := by decide
    rw [e24] at b24
    rw [eg]
    have cd : ∀ i, CDiv i ((Nat.gcd t.natAbs b.natAbs : Nat) : Int) := fun i => ⟨by omega, by omega⟩
    refine ⟨_, rfl, _, rfl, _, _, rfl, rfl, cd _, _, rfl, _, rfl, _, _, rfl, rfl, cd _, two_ok, fun p np => ?_⟩
    have sl : Same H (upd H l (.lst [.int t, .int b])) := same_upd nl
    refine q p _ (same_at sl (sl.free np)) (sl.free np) ?_
    rw [upd_same]
    unfold tpl frac
    rw [if_neg (by omega), Int.fdiv_eq_ediv_of_nonneg _ (by omega), Int.fdiv_eq_ediv_of_nonneg _ (by omega)]
abbrev s_Lis_integer : Stmt := topS 26
abbrev n_Lis_integer : List Str := ["value"]
theorem sc_Lis_integer : FnScope n_Lis_integer ["value"] (defScope s_Lis_integer) := ⟨rfl, rfl, rfl, by decide +kernel, rfl, by decide +kernel, by decide +kernel⟩
theorem ok_Lis_integer {f : Addr} {fd : FuncData} (F : Fun K "_law_is_integer" "_law_is_integer" s_Lis_integer f fd) (T : Txt K mg) : FnOk P w K mg base CX0 1 f fd ["value"] (spWh K) := by
  refine F.ok sc_Lis_integer (fun vs H Q E h => ?_) (fun cdv A outer s H vs Q E hr h => ?_)
  · obtain ⟨x, b, rfl, _⟩ := h
    rfl
  · obtain ⟨x, b, rfl, ⟨t, b1, b2, ty, k1, k2, rfl⟩, q⟩ := h
    refine ⟨_, (pss_one (ps_ret (pe_and (pe_callB call_isE (by rfl) T.b_isinstance (by decide +kernel) (pa_cons (pv 0) (pa_cons (pe_bltn (v := .ty "int") (by rfl) T.b_int boot_int rfl) pa_nil))) (pe_one (pe_not (pe_callB call_isE (by rfl) T.b_isinstance (by decide +kernel) (pa_cons (pv 0) (pa_cons (pe_bltn (v := .ty "bool") (by rfl) T.b_bool boot_bool rfl) pa_nil)))))))), ?_⟩
    refine ⟨_, rfl, x, t, "int", b1, rfl, ty, k1, b1, rfl, ?_⟩
    cases b1 with
    | false => exact iteF q
    | true => exact iteT ⟨_, rfl, x, t, "bool", b2, rfl, ty, k2, b2, rfl, q⟩
abbrev s_Lis_fraction : Stmt := topS 27
abbrev n_Lis_fraction : List Str := ["value", "item"]
theorem sc_Lis_fraction : FnScope n_Lis_fraction ["value"] (defScope s_Lis_fraction) := ⟨rfl, rfl, rfl, by decide +kernel, rfl, by decide +kernel, by decide +kernel⟩
def spLIsFr (K : PySem.W.Frag) : Sp := fun vs H Q _ => ∃ (v : V) (b : Bool), vs = [v] ∧ OdV K H v b ∧ ∀ H', Same H H' → Q (.bl b) H'
theorem ok_Lis_fraction {f : Addr} {fd : FuncData} (F : Fun K "_law_is_fraction" "_law_is_fraction" s_Lis_fraction f fd) (T : Txt K mg) (c_Lcommon : Cal P w K mg base 1 "_law_common" spComT []) (c_Lis_integer : Cal P w K mg base 1 "_law_is_integer" (spWh K) []) : FnOk P w K mg base CX0 2 f fd ["value"] (spLIsFr K) := by
  refine F.ok sc_Lis_fraction (fun vs H Q E h => ?_) (fun cdv A outer s H vs Q E hr h => ?_)
  · obtain ⟨x, b, rfl, _⟩ := h
    rfl
  · obtain ⟨v, b, rfl, o, q⟩ := h
    refine ⟨_, (pss_cons (ps_if (PW.pt (pw_or (pt_not (pt_val (pe_callB call_isE (by rfl) T.b_isinstance (by decide +kernel) (pa_cons (pv 0) (pa_cons (pe_bltn (v := .ty "tuple") (by rfl) T.b_tuple boot_tuple rfl) pa_nil))))) (pw_or (pt_cmpR op_ne (pe_callB call_len_seq (by rfl) T.b_len (by decide +kernel) (pa_cons (pv 0) pa_nil)) pe_int (nomark _)) (pw_or1 (pt_not (pt_val (pe_callB (cr_all rfl) (by rfl) T.b_all (by decide +kernel) (pa_cons (pe_lc (own := [("item", 1)]) rfl sc_Lis_fraction.nd (pi_tup (pv 0)) (blkOk_by (N := n_Lis_fraction) (sc := defScope s_Lis_fraction) (by decide +kernel)) (fun _ _ _ _ _ => (pg_name (i := 1) sc_Lis_fraction.nd rfl (.inl rfl))) (fun _ _ _ _ _ => pts_nil) (fun _ _ _ _ _ => (pe_c c_Lis_integer hr (by decide) (by rfl) (pa_cons (pv 1) pa_nil)))) pa_nil)))))))) (pss_one (ps_ret pe_bl)) pss_nil)
      (pss_one (ps_ret (pe_and (pe_cmpR op_gt (pe_ix ix_tup (pv 0) pe_int (fun _ _ => rfl)) pe_int (nomark _)) (pe_one (pe_cmpR op_eq (pe_c c_Lcommon hr (by decide) (by rfl) (pa_cons (pv 0) pa_nil)) pe_int (nomark _))))))), ?_⟩
    cases o with
    | no ty k => exact ⟨_, rfl, v, _, "tuple", false, rfl, ty, k, false, rfl, iteT (iteT (q _ (Same.refl _)))⟩
    | @len p xs e n l =>
      refine ⟨_, rfl, .ref p, .type "tuple", "tuple", true, rfl, .base (.base (.tup e)), by rfl, true, rfl, iteF ⟨_, rfl, p, xs, rfl, .inr (sq_tup e), rfl, _, rfl, ite2 (fun _ => iteT (q _ (Same.refl _))) (fun h => ?_)⟩⟩
      refine absurd ?_ h
      rw [Bool.not_eq_true', decide_eq_false_iff_not]
      exact fun z => n (by have := V.int.inj z; omega)
    | @parts p x y b1 b2 e w1 w2 n =>
      refine ⟨_, rfl, .ref p, .type "tuple", "tuple", true, rfl, .base (.base (.tup e)), by rfl, true, rfl, iteF ⟨_, rfl, p, _, rfl, .inr (sq_tup e), rfl, _, rfl, iteNS rfl ?_⟩⟩
      refine ⟨_, rfl, p, rfl, ⟨_, sq_tup e⟩, fun D nD => ?_⟩
      have pD : p ≠ D := ne_of_none e nD
      refine lc_tup (K := K) (a := p) (xs := [x, y]) (fun j H' => H' D = some (.lst (([b1, b2].take j).map V.bl)) ∧ Same H H') ⟨upd_same, same_upd nD⟩ (fun j H' _ h => sq_tup (h.2 _ _ e)) ?_ ?_
      · rintro j z H4 hj ⟨hD, sm⟩
        have hj2 : j < 2 := (List.getElem?_eq_some_iff.mp hj).1
        obtain ⟨c, hc, wz⟩ : ∃ c, [b1, b2][j]? = some c ∧ WhV K H z c := by
          match j, hj2, hj with
          | 0, _, hj => exact ⟨_, rfl, Option.some.inj hj ▸ w1⟩
          | 1, _, hj => exact ⟨_, rfl, Option.some.inj hj ▸ w2⟩
        refine ⟨rfl, _, rfl, z, c, rfl, wz.same sm, _, hD, (by rw [List.length_map, List.length_take]; exact small1000 (Nat.le_trans (Nat.min_le_left _ _) (by omega))), ?_, same_at sm nD⟩
        rw [upd_same, take_at hc, List.map_append]; rfl
      · rintro H4 ⟨hD, sm⟩
        refine ⟨D, [b1, b2], rfl, sq_lst hD, _, rfl, ?_⟩
        have n2 : [b1, b2].all id = false := by simpa using n
        rw [n2]
        exact iteT (q _ sm)
    | @nums p a e s1 s2 =>
      refine ⟨_, rfl, .ref p, .type "tuple", "tuple", true, rfl, .base (.base (.tup e)), by rfl, true, rfl, iteF ⟨_, rfl, p, _, rfl, .inr (sq_tup e), rfl, _, rfl, iteNS rfl ?_⟩⟩
      refine ⟨_, rfl, p, rfl, ⟨_, sq_tup e⟩, fun D nD => ?_⟩
      have pD : p ≠ D := ne_of_none e nD
      refine lc_tup (K := K) (a := p) (xs := [.int a.1, .int a.2]) (fun j H' => H' D = some (.lst (([true, true].take j).map V.bl)) ∧ Same H H') ⟨upd_same, same_upd nD⟩ (fun j H' _ h => sq_tup (h.2 _ _ e)) ?_ ?_
      · rintro j z H4 hj ⟨hD, sm⟩
        have hj2 : j < 2 := (List.getElem?_eq_some_iff.mp hj).1
        obtain ⟨c, hc, wz⟩ : ∃ c, [true, true][j]? = some c ∧ WhV K H z c := by
          match j, hj2, hj with
          | 0, _, hj => exact ⟨_, rfl, Option.some.inj hj ▸ WhV.int _⟩
          | 1, _, hj => exact ⟨_, rfl, Option.some.inj hj ▸ WhV.int _⟩
        refine ⟨rfl, _, rfl, z, c, rfl, wz.same sm, _, hD, (by rw [List.length_map, List.length_take]; exact small1000 (Nat.le_trans (Nat.min_le_left _ _) (by omega))), ?_, same_at sm nD⟩
        rw [upd_same, take_at hc, List.map_append]; rfl
      · rintro H4 ⟨hD, sm⟩
        refine ⟨D, [true, true], rfl, sq_lst hD, _, rfl, ?_⟩
        refine iteF ⟨_, rfl, p, _, 1, .int a.2, rfl, rfl, sq_tup (sm _ _ e), rfl, _, _, rfl, rfl, _, rfl, ite2 (fun h => ?_) (fun h => ?_)⟩
        · refine ⟨_, rfl, p, [a.1, a.2], rfl, sm _ _ e, rfl, ?_⟩
          have q := q _ sm
          rw [h, Bool.true_and] at q
          have eg : gcds 0 [a.1, a.2] = Nat.gcd a.1.natAbs a.2.natAbs := by
            show Nat.gcd (Nat.gcd 0 a.1.natAbs) a.2.natAbs = _
            rw [Nat.gcd_zero_left]
          rw [eg]
          have e2 : decide (V.int ((Nat.gcd a.1.natAbs a.2.natAbs : Nat) : Int) = V.int 1) = decide (Nat.gcd a.1.natAbs a.2.natAbs = 1) :=
            decide_eq_decide.mpr ⟨fun z => by have := V.int.inj z; omega, fun z => by rw [z]; rfl⟩
          rw [e2]; exact q
        · have q := q _ sm
          rw [Bool.not_eq_true] at h
          rw [h, Bool.false_and] at q
          exact q
abbrev s_Lfraction : Stmt := topS 28
abbrev n_Lfraction : List Str := ["box", "most"]
theorem sc_Lfraction : FnScope n_Lfraction ["box"] (defScope s_Lfraction) := ⟨rfl, rfl, rfl, by decide +kernel, rfl, by decide +kernel, by decide +kernel⟩
def spFraction : Sp := fun vs H Q _ => ∃ (b : Addr), vs = [.ref b] ∧ BoxAt H b ∧ ∀ (q : M02.Q) (p : Addr) (H' : Hp), Fr q → q.1.natAbs ≤ 1000000 → q.2.natAbs ≤ 1000000 → BoxAt H' b → Keep b H H' → H' p = some (tpl q) → Q (.ref p) H'
theorem ok_Lfraction {f : Addr} {fd : FuncData} (F : Fun K "_law_fraction" "_law_fraction" s_Lfraction f fd) (T : Txt K mg) (c_Ltake : Cal P w K mg base 1 "_law_take" spTake []) (c_Lpick : Cal P w K mg base 2 "_law_pick" (spPick K) []) (c_Llow : Cal P w K mg base 2 "_law_low" spLow []) : FnOk P w K mg base CX0 3 f fd ["box"] spFraction := by
  refine F.ok sc_Lfraction (fun vs H Q E h => ?_) (fun cdv A outer s H vs Q E hr h => ?_)
  · obtain ⟨b, rfl, _⟩ := h
    rfl
  · obtain ⟨b, rfl, hb, q⟩ := h
    refine ⟨_, (pss_cons (ps_set (i := 1) sc_Lfraction.nd rfl (.inl rfl) (pe_c c_Lpick hr (by decide) (by rfl) (pa_cons (pv 0) (pa_cons (pe_lst (pa_cons pe_int (pa_cons pe_int (pa_cons pe_int (pa_cons pe_int pa_nil))))) pa_nil))))
      (pss_one (ps_ret (pe_c c_Llow hr (by decide) (by rfl) (pa_cons (pe_op op_sub (pe_c c_Ltake hr (by decide) (by rfl) (pa_cons (pv 0) (pa_cons (pe_op op_add (pe_op op_mul pe_int (pv 1)) pe_int) pa_nil))) (pv 1)) (pa_cons (pe_op op_add pe_int (pe_c c_Ltake hr (by decide) (by rfl) (pa_cons (pv 0) (pa_cons (pv 1) pa_nil)))) pa_nil)))))), ?_⟩
    refine ⟨_, rfl, len4, fun l nl => ?_⟩
    have sl : Same H (upd H l (.lst [.int 2, .int 5, .int 1000, .int 1000000])) := same_upd nl
    refine ⟨b, l, _, rfl, hb.same sl, upd_same, hb.ne_of nl, by simp, by simp, fun i v H1 hi hb1 kp => ?_⟩
    obtain ⟨m, rfl, m0, m1⟩ : ∃ m : Int, v = .int m ∧ 2 ≤ m ∧ m ≤ 1000000 := by
      have := List.mem_of_getElem? hi
      simp only [List.mem_cons, List.not_mem_nil, or_false] at this
      rcases this with rfl | rfl | rfl | rfl
      · exact ⟨_, rfl, by decide, by decide⟩
      · exact ⟨_, rfl, by decide, by decide⟩
      · exact ⟨_, rfl, by decide, by decide⟩
      · exact ⟨_, rfl, by decide, by decide⟩
    refine ⟨_, rfl, _, rfl, _, _, rfl, rfl, .inl ⟨by decide, by decide⟩, _, _, rfl, rfl, b, _, rfl, hb1, by omega, by omega, fun d H2 d0 d1 hb2 k2 => ?_⟩
    refine ⟨_, rfl, _, _, rfl, rfl, _, rfl, _, rfl, b, _, rfl, hb2, by omega, by omega, fun e H3 e0 e1 hb3 k3 => ?_⟩
    have e24 : (2 : Nat) ^ 24 = 16777216 := by decide
    refine ⟨_, _, rfl, rfl, _, _, rfl, by omega, by rw [e24]; omega, fun p H4 s4 np ep => ?_⟩
    have bl := frac_le (d - m) (1 + e) (by omega)
    exact q _ p H4 (frac_fr _ _ (by omega)) (by omega) (by omega) (hb3.same s4) (((((Keep.of sl).trans kp).trans k2).trans k3).trans (.of s4)) ep
abbrev s_Ltruth : Stmt := topS 29
abbrev n_Ltruth : List Str := ["value", "due"]
theorem sc_Ltruth : FnScope n_Ltruth ["value", "due"] (defScope s_Ltruth) := ⟨rfl, rfl, rfl, by decide +kernel, rfl, by decide +kernel, by decide +kernel⟩
def spTruth : Sp := fun vs H Q _ => ∃ a : Bool, vs = [.bl a, .bl a] ∧ Q (.bl true) H
theorem ok_Ltruth {f : Addr} {fd : FuncData} (F : Fun K "_law_truth" "_law_truth" s_Ltruth f fd) (T : Txt K mg) : FnOk P w K mg base CX0 1 f fd ["value", "due"] spTruth := by
  refine F.ok sc_Ltruth (fun vs H Q E h => ?_) (fun cdv A outer s H vs Q E hr h => ?_)
  · obtain ⟨a, rfl, _⟩ := h
    rfl
  · obtain ⟨a, rfl, q⟩ := h
    refine ⟨_, (pss_one (ps_ret (pe_and (pe_callB call_isE (by rfl) T.b_isinstance (by decide +kernel) (pa_cons (pv 0) (pa_cons (pe_bltn (v := .ty "bool") (by rfl) T.b_bool boot_bool rfl) pa_nil))) (pe_one (pe_cmpR op_eq (pv 0) (pv 1) (nomark _)))))), ?_⟩
    refine ⟨_, rfl, .bl a, .type "bool", "bool", true, rfl, .base (.base (.bl a)), by rfl, true, rfl, iteT ⟨_, rfl, _, rfl, rfl, ?_⟩⟩
    rw [decide_eq_true rfl]; exact q
abbrev s_Lequals : Stmt := topS 30
abbrev n_Lequals : List Str := ["value", "top", "bottom"]
theorem sc_Lequals : FnScope n_Lequals ["value", "top", "bottom"] (defScope s_Lequals) := ⟨rfl, rfl, rfl, by decide +kernel, rfl, by decide +kernel, by decide +kernel⟩
def spEquals : Sp := fun vs H Q _ => ∃ (p : Addr) (q : M02.Q) (t b : Int), vs = [.ref p, .int t, .int b] ∧ H p = some (tpl q) ∧ Fr q ∧ q.1.natAbs < 2 ^ 8000 ∧ q.2.natAbs < 2 ^ 8000 ∧ t.natAbs < 2 ^ 8000 ∧ b.natAbs < 2 ^ 8000 ∧ q.1 * b = t * q.2 ∧ ∀ H', Same H H' → Q (.bl true) H'
theorem ok_Lequals {f : Addr} {fd : FuncData} (F : Fun K "_law_equals" "_law_equals" s_Lequals f fd) (T : Txt K mg) (c_Lis_fraction : Cal P w K mg base 2 "_law_is_fraction" (spLIsFr K) []) : FnOk P w K mg base CX0 3 f fd ["value", "top", "bottom"] spEquals := by
  refine F.ok sc_Lequals (fun vs H Q E h => ?_) (fun cdv A outer s H vs Q E hr h => ?_)
  · obtain ⟨p, q, t, b, rfl, _⟩ := h
    rfl
  · obtain ⟨p, q, t, b, rfl, hp, fr, b1, b2, b3, b4, eq, k⟩ := h
    refine ⟨_, (pss_one (ps_ret (pe_and (pe_c c_Lis_fraction hr (by decide) (by rfl) (pa_cons (pv 0) pa_nil)) (pe_one (pe_cmpR op_eq (pe_op op_mulX (pe_ix ix_tup (pv 0) pe_int (fun _ _ => rfl)) (pv 2)) (pe_op op_mulX (pv 1) (pe_ix ix_tup (pv 0) pe_int (fun _ _ => rfl))) (nomark _)))))), ?_⟩
    refine ⟨_, rfl, .ref p, _, rfl, .nums hp b1 b2, fun H' sH => ?_⟩
    have e1 : (decide (0 < q.2) && decide (Nat.gcd q.1.natAbs q.2.natAbs = 1)) = true := by rw [decide_eq_true fr.pos, decide_eq_true fr.co]; rfl
    refine ⟨_, rfl, ?_⟩
    rw [e1]
    refine iteT ⟨_, rfl, p, _, 0, .int q.1, rfl, rfl, sq_tup (sH _ _ hp), rfl, _, rfl, _, _, rfl, rfl, mulx_ok b1 b4 (by decide), _, rfl, _, rfl, p, _, 1, .int q.2, rfl, rfl, sq_tup (sH _ _ hp), rfl, _, _, rfl, rfl, mulx_ok b3 b2 (by decide), rfl, ?_⟩
    rw [decide_eq_true (show V.int (q.1 * b) = V.int (t * q.2) by rw [eq])]
    exact k _ sH
end
end M02

namespace M02
open PySem PySem.Spec PyProof.Rows L2 SX
open C8 (Cal pe_c pe_gc pss_cut)
/-! ### several clauses, each with the same name -/
abbrev Suite := Addr → Value → Option Addr → TS
/-- the ends behind a clause: its name is gone -/
def offName (i : Nat) (D : Ends) : Ends := { nx := fun σ H => D.nx (σ.set i none) H, rt := D.rt, bk := fun σ H => D.bk (σ.set i none) H, ct := fun σ H => D.ct (σ.set i none) H }
def wNamed (K : PySem.W.Frag) (i : Nat) (Wout : WX) (D : Ends) : List (Value × Suite) → WX
  | [] => Wout
  | z :: r => fun cls d σ H => ∃ b, PySem.W.exmOne K cls z.1 = some b ∧ (b = true → ∀ a, H a = none → i < σ.length → z.2 a cls d (offName i D) (σ.set i (some (.ref a))) H) ∧ (b = false → wNamed K i Wout D r cls d σ H)
inductive Clauses (X : Cx) (n : Str) : List ExceptHandler → List (Value × Suite) → Prop
  | nil : Clauses X n [] []
  | cons {x : Str} {c : Value} {ts : Suite} {b : Stmt} {bs : List Stmt} {p q : Pos} {hs : List ExceptHandler} {l : List (Value × Suite)} (nm : Names X x c)
      (su : ∀ (a : Addr) (oe : Obj) (cls : Value) (d : Option Addr) (pn : List (Addr × Obj)), Zc cls d oe → (∃ vs, oe.data = .fields vs) → PSs (X.suite a ((a, oe) :: pn)) (b :: bs) (ts a cls d)) (r : Clauses X n hs l) :
      Clauses X n (.ExceptHandler (some (.Name x p)) (some n) (b :: bs) q :: hs) ((c, ts) :: l)
section
variable {X : Cx} {pins : List (Addr × Obj)} {n : Str} {i : Nat} {Wout : WX} {D : Ends} {body : List Stmt} {tb : WX → TS} {pos : Pos}
/-- what flies has met no clause yet -/
theorem clauses_go (hs : X.stack = X.env :: X.outer) (hf : X.env.frame = some X.env.locals) (hN : X.N.Nodup) (hi : X.N[i]? = some n) (hl : X.env.kindOf n = some .local) (tk : L2.Takes X Wout)
    {a : Addr} {B : Heap} {cls : Value} {d : Option Addr} {σ : L2.St} {H : Hp} {s : Shared} {sI : Shared} (ok : X.Ok) (J : Inv X pins σ H sI) (nb : ∀ b o, sI.heap.get? b = some o → b ∉ frs X.stack → B.get? b = some o) (os : s.os = sI.os) (ag : AllBare s.gens) (na : H a = none)
    {h3 : Heap} (fl3 : HandSPX.FlyingZ B (X.env :: X.outer) a (Zc cls d) h3) (up3 : sI.heap.UpToSlots h3) : ∀ {hds : List ExceptHandler} {l : List (Value × Suite)}, Clauses X n hds l → wNamed X.K i Wout D l cls d σ H →
      wpAny (model X.prog X.w) X.A (handleBy (.ref a) X.env hds) (SP X pins D) X.xe { s with heap := h3 } := by
  have hfr : X.A.frames = some (X.env :: X.outer) := by rw [ok.frames, hs]
  have J3 : Inv X pins σ H { s with heap := h3 } := J.landed nb fl3.1 up3 os ag
  obtain ⟨oe, vs, he, hz, hd⟩ := id fl3.there
  have apart : a ∉ frs (X.env :: X.outer) := fun hm => by
    obtain ⟨_, o, e, hnf⟩ := fl3.2.2.1.mem hm
    rw [he] at e
    cases e
    exact hnf _ hd
  have nL : a ≠ X.env.locals := fun z => apart (List.mem_filterMap.mpr ⟨X.env, List.mem_cons_self, by rw [hf, z]⟩)
  have nF : a ∉ X.fs := fun hm => by
    obtain ⟨e, q1, q2⟩ := List.mem_filterMap.mp hm
    exact apart (List.mem_filterMap.mpr ⟨e, List.mem_cons_of_mem _ q1, q2⟩)
  have S3 := J3.suite he hd na nL nF
  have hlt : i < σ.length := by rw [J.len]; exact (List.getElem?_eq_some_iff.mp hi).1
  have LT : PySem.W.Looks (model X.prog X.w) h3 (typeOf (.ref a)) cls := fun A Q E s k q => wpAny_typeOf_ref (k _ _ he) (by rw [hz.1]; exact q)
  intro hds l C
  induction C with
  | nil =>
    intro w
    refine wpAny_handleBy_nil ?_
    obtain ⟨_, _, _, oe', vs', T, _, _, e1, _, e2, e3, _⟩ := id fl3
    unfold PySem.passOn
    refine wpAny_bind (wpAny_field e1 e2 e3 ?_)
    rw [if_neg (show ¬ ((Value.ref T == Value.none) = true) from by simp)]
    have fin : wpAny (model X.prog X.w) X.A (setFlight (.ref a) X.env.frame) (fun _ s4 => wpAny (model X.prog X.w) X.A (throw (.ref a) : Sem Flow) (SP X pins D) X.xe s4) X.xe { s with heap := h3 } := by
      rw [hf]
      exact HandSPX.setFlight_upZ fl3 fun h4 x4 up4 => wpAny_throw (tk _ _ ⟨a, B, sI, pins, σ, H, cls, d, rfl, J, nb, up3.trans up4, .inr (.inr (by rw [hs]; exact x4)), na, os, ag, w⟩)
    first
      | exact wpAny_bind (wpAny_pure (wpAny_bind fin))
      | exact wpAny_bind fin
  | @cons x c ts b0 bs p q hds' l' nm su r ih =>
    intro w
    obtain ⟨b, hb, yes, no⟩ := w
    refine wpAny_handleBy_cons (codeAny_handlers_test ?_) (by intro z; cases z)
    have LM := PySem.W.exm_one (M := model X.prog X.w) J3.kIn LT hb
    have test : ∀ {Q : Value → Shared → Prop} {E : Value → Shared → Prop}, Q c { s with heap := h3 } → wpAny (model X.prog X.w) (X.A.mark (some (.ref a))) (eval (.Name x p) X.env) Q E { s with heap := h3 } := fun {Q E} z => by
      obtain ⟨hg, hg2, hm | ⟨hm, hv, hnn⟩⟩ := nm
      · exact ld_glob (X := X.suite a ((a, oe) :: (X.pn ++ pins))) S3 hg hm z hg2
      · exact ld_blt (X := X.suite a ((a, oe) :: (X.pn ++ pins))) S3 hg hm hv z hnn hg2
    refine test (LM.here ?_)
    cases b with
    | false => exact ih (no rfl)
    | true =>
      refine codeAny_handlers_suite_as (HandSPX.lands_againZ fl3 fun h4 fl4 up4 => ?_)
      have J4 : Inv X pins σ H { s with heap := h4 } := J.landed nb fl4.1 (up3.trans up4) os ag
      obtain ⟨oe4, vs4, he4, hz4, hd4⟩ := fl4.there
      refine store_ok (X := X.suite a ((a, oe4) :: (X.pn ++ pins))) (v := .ref a) (J4.suite he4 hd4 na nL nF) hN hi (.inl hl) rfl (fun s5 S5 => ?_) (.inr hl)
      refine wpAny_mono ((su a oe4 cls d (X.pn ++ pins) hz4 ⟨_, hd4⟩).run [] s5 _ H _ S5 (yes rfl a na hlt)) (fun fl s6 z => ?_) (fun _ _ z => False.elim z)
      have off : ∀ {σ6 : L2.St} {H6 : Hp} {Q : Shared → Prop}, Inv (X.suite a ((a, oe4) :: (X.pn ++ pins))) [] σ6 H6 s6 → (∀ s7, Inv X pins (σ6.set i none) H6 s7 → Q s7) →
          wpAny (model X.prog X.w) X.A (do bindName X.env n .none; unbindBehindTheSuite X.env n q) (fun _ s7 => Q s7) X.xe s6 := fun {σ6 H6 Q} S6 k => gone_ok (S6.unsuite ok) hN hi hl k
      cases fl with
      | next =>
        obtain ⟨σ6, H6, S6, k⟩ := z
        exact off S6 fun s7 J7 => ⟨_, _, J7, k⟩
      | brk =>
        obtain ⟨σ6, H6, S6, k⟩ := z
        exact off S6 fun s7 J7 => ⟨_, _, J7, k⟩
      | cont =>
        obtain ⟨σ6, H6, S6, k⟩ := z
        exact off S6 fun s7 J7 => ⟨_, _, J7, k⟩
      | ret u =>
        obtain ⟨v6, σ6, H6, S6, r6, k⟩ := z
        exact off S6 fun s7 J7 => ⟨_, _, _, J7, r6, k⟩
theorem ps_try_named {h0 : ExceptHandler} {hds : List ExceptHandler} {l : List (Value × Suite)} (hs : X.stack = X.env :: X.outer) (hf : X.env.frame = some X.env.locals) (hN : X.N.Nodup) (hi : X.N[i]? = some n) (hl : X.env.kindOf n = some .local) (tk : L2.Takes X Wout)
    (hb : ∀ (W : WX) (pn : List (Addr × Obj)) (xe : Value → Shared → Prop), L2.Takes (X.tr pn xe) W → PassesOwn (model X.prog X.w) X.A X.env xe → PSs (X.tr pn xe) body (tb W))
    (C : Clauses X n (h0 :: hds) l) : PS X (.Try body (h0 :: hds) [] [] pos) (fun D σ H => tb (wNamed X.K i Wout D l) D σ H) := by
  refine ⟨fun pins s σ H D I h => ?_⟩
  have ok := I.ok
  have hfr : X.A.frames = some (X.env :: X.outer) := by rw [ok.frames, hs]
  refine wpAny_Try_except (wpAny_mono ((hb (wNamed X.K i Wout D l) (X.pn ++ pins) (fun e s₁ => wpAny (model X.prog X.w) X.A (noteFrame e X.env) (fun _ s₂ => wpAny (model X.prog X.w) X.A (setFlight e none) (fun _ s₃ =>
    wpAny (model X.prog X.w) X.A (handleBy e X.env (h0 :: hds)) (SP X pins D) X.xe s₃) X.xe s₂) X.xe s₁) (fun u s' xx => ?_) PassesOwn.looking).run [] s σ H D (I.toTry _) h) (fun f s1 z => ?_) (fun e s1 z => z))
  · obtain ⟨a, B, sI, pins', σ', H', cls, d, rfl, J', nb, up, sky, na, os, ag, w⟩ := xx
    refine Sky.land Zc.steady hfr hf (by rw [← hs]; exact sky) fun h3 fl3 up3 => ?_
    exact clauses_go hs hf hN hi hl tk ok (J'.ofTry ok) nb os ag na fl3 (up.trans up3) C w
  · cases f with
    | next =>
      obtain ⟨σ', H', J', q⟩ := z
      exact wpAny_execs_nil ⟨σ', H', J'.ofTry ok, q⟩
    | brk =>
      obtain ⟨σ', H', J', q⟩ := z
      exact ⟨σ', H', J'.ofTry ok, q⟩
    | cont =>
      obtain ⟨σ', H', J', q⟩ := z
      exact ⟨σ', H', J'.ofTry ok, q⟩
    | ret u =>
      obtain ⟨v, σ', H', J', r, q⟩ := z
      exact ⟨v, σ', H', J'.ofTry ok, r, q⟩
end
end M02

namespace M02
open PySem PySem.Spec PyProof.Rows L2 SX
open C8 (Cal pe_c pe_gc pss_cut)
/-! ### _law_refused, handed a lambda -/
abbrev s_Lrefused : Stmt := topS 31
abbrev n_Lrefused : List Str := ["action", "error"]
theorem sc_Lrefused : FnScope n_Lrefused ["action"] (defScope s_Lrefused) := ⟨rfl, rfl, rfl, by decide +kernel, rfl, by decide +kernel, by decide +kernel⟩
/-- the two errors -/
structure Ex2 (K : PySem.W.Frag) (mg : Str → Option Value) (CN CR : Addr) : Prop where
  n : ∃ f, ExT K mg "InvalidNumber" CN f
  r : ∃ f, ExT K mg "Refused" CR f
  nn : PySem.W.exmOne K (.ref CN) (.ref CN) = some true
  rn : PySem.W.exmOne K (.ref CR) (.ref CN) = some false
  rr : PySem.W.exmOne K (.ref CR) (.ref CR) = some true
/-- what is made of an error -/
def Caught (CN CR : Addr) (Q : VK) : XK := fun cls d H => ∃ (nm : Str) (dd : Addr) (y : V), ((cls = .ref CN ∧ nm = "number") ∨ (cls = .ref CR ∧ nm = "refused")) ∧ d = some dd ∧ H dd = some (.xd [("word", y)]) ∧ ∀ p, H p = none → Q (.ref p) (upd H p (.tup [.str nm, y]))
def TRef (CN CR : Addr) : (XK → Hp → VK → Prop) → Hp → VK → Prop := fun tl H Q => tl (Caught CN CR Q) H (fun _ H' => ([] : List V).length ≤ sizeLine ∧ ∀ p, H' p = none → Q (.ref p) (upd H' p (.tup [])))
theorem refused_gives {X : Cx} {g CN CR : Addr} {cdg : Value} {q : Str} (T : Ex2 X.K X.mg CN CR) : LamX.GivesTo X n_Lrefused "_law_refused" (defScope s_Lrefused) g cdg (defBody s_Lrefused) "action" q (TRef CN CR) := by
  obtain ⟨fN, tN⟩ := T.n
  obtain ⟨fR, tR⟩ := T.r
  intro f c' s H Q tl act hc h
  refine ⟨_, pss_cons (ps_try_named (X := (cxOf C8.CX0 X.prog X.w X.K X.mg X.base n_Lrefused "_law_refused" (defScope s_Lrefused) g cdg X.A X.stack s H C8.E0).nox) (i := 1) (n := "error") (Wout := fun _ _ _ _ => False)
      (tb := fun W D σ H => ∃ Ech : XK, (∀ cls d σ' H', Ech cls d H' → W cls d σ' H') ∧ σ[0]? = some (some (.ref f)) ∧ H c' = some (LamX.CodeO c' q) ∧ tl Ech H (fun _ H' => D.nx σ H'))
      rfl rfl sc_Lrefused.nd rfl rfl L2.takes0 (fun W pn xe tk _ => ?_)
      (.cons ⟨by rfl, by decide, .inl tN.gC⟩ (fun a oe cls d pn hz hf => pss_one (ps_ret (pe_tup (pa_cons pe_str (pa_cons (pe_xf tN.xf tN.noW hz hf (pv 1)) pa_nil)))))
      (.cons ⟨by rfl, by decide, .inl tR.gC⟩ (fun a oe cls d pn hz hf => pss_one (ps_ret (pe_tup (pa_cons pe_str (pa_cons (pe_xf tR.xf tR.noW hz hf (pv 1)) pa_nil))))) .nil))) (pss_one (ps_ret (pe_tup pa_nil))), ?_⟩
  · refine ⟨fun pins s' σ H' D I h' => ?_⟩
    obtain ⟨Ech, hW, h1, h2, h3⟩ := h'
    exact (pss_one (ps_expr (act W pn xe Ech _ _ tk hW))).run pins s' σ H' D I ⟨h1, h2, h3⟩
  · refine ⟨Caught CN CR Q, fun cls d σ' H' hc => ?_, rfl, hc, ?_⟩
    · obtain ⟨nm, dd, y, hcl, hd, hdd, k⟩ := hc
      have at1 : ∀ (a : Addr), 1 < σ'.length → (List.set σ' 1 (some (V.ref a)))[1]? = some (some (V.ref a)) := fun a hl => by rw [List.getElem?_set_self hl]
      rcases hcl with ⟨rfl, rfl⟩ | ⟨rfl, rfl⟩
      · exact ⟨true, T.nn, fun _ a na hl => ⟨_, at1 a hl, rfl, rfl, dd, _, y, hd, hdd, rfl, two_ok, fun p np => k p np⟩, fun z => nomatch z⟩
      · exact ⟨false, T.rn, fun z => (nomatch z), fun _ => ⟨true, T.rr, fun _ a na hl => ⟨_, at1 a hl, rfl, rfl, dd, _, y, hd, hdd, rfl, two_ok, fun p np => k p np⟩, fun z => (nomatch z)⟩⟩
    · exact h
end M02

namespace M02
open PySem PySem.Spec PyProof.Rows L2 SX
open C8 (Cal pe_c pe_gc pss_cut)
/-! ### _law_refused(lambda: ..) -/
section
variable {X : Cx} {CN CR c P : Addr} {T : List (Addr × Str)} {k j : Nat} {params : Arguments} {body : Expr} {scope : Scope} {t : XK → TE} {p lpos pos : Pos}
theorem pe_ref (R : Df X.K X.mg "_law_refused" s_Lrefused ["action"]) (E2 : Ex2 X.K X.mg CN CR) (TB : LamX.TabB X.base X.mg c P) (hcode : X.env.code = .ref c) (hmT : (P, X.env.qual ++ "<lambda>") ∈ T) (hu : ∀ p ∈ T, p.1 = P → p.2 = X.env.qual ++ "<lambda>")
    (hr : Room j X.A) (hk : k + 2 ≤ j) (hg : Gl X "_law_refused") (L : LamX.LamS X.env.scope scope) (hdef : defaultsOf params X.env = ([], []))
    (hbind : ∀ (q : Str) (cl : List (Str × Addr)) (pm cv ctv : Value), bindArgs (PySem.W.kla_fn "<lambda>" q params body scope cl pm cv ctv) ⟨[], []⟩ = pure [])
    (hbody : ∀ (A : Around) (outer : List Env) (s : Shared) (H : Hp) (E : XK) (f c' : Addr), Room k (A.deeper (LamX.lamEnv X scope s.heap.objs.size f c')) → PE (LamX.lamCx X A outer s H E scope f c') body (t E)) :
    PE X (.Call (.Name "_law_refused" p) [.Lambda params body scope lpos] [] pos) (LamX.tLam T (TRef CN CR) t) := by
  obtain ⟨g, fd, F, hm, b⟩ := R.ex
  have kp := F.kp
  obtain ⟨oc, od, kV, doc, pm, an, cdv, ct, osl, rfl, lk, hcd⟩ := F.ex
  exact LamX.pe_lamcall (Ng := n_Lrefused) hg hm kp lk hcd b sc_Lrefused rfl (.inl rfl) (refused_gives E2) TB hcode hmT hu (hr.mono hk) L hdef hbind hbody
end
/-- a def whose code object stands at c -/
structure FunC (K : PySem.W.Frag) (x qual : Str) (st : Stmt) (f : Addr) (fd : FuncData) (c : Addr) : Prop where
  ex : ∃ (oc : Value) (od : Option Addr) (kV doc pm : Value) (an : Option Addr) (ct : Value) (osl : Array (Option Value)),
    fd = PySem.W.fnOf x qual (defArgs st) (defBody st) (defScope st) .none kV doc pm an (.ref c) ct ∧ K.lookup f = some ⟨oc, od, .func fd, osl⟩ ∧ PySem.W.codeIn K (.ref c) qual = true
section
variable {P : Program} {w : World} {K : PySem.W.Frag} {mg : Str → Option Value} {base : Heap}
theorem FunC.ok {x qual : Str} {st : Stmt} {f c : Addr} {fd : FuncData} {N ps : List Str} {k : Nat} {sp : Sp} (F : FunC K x qual st f fd c) (S : FnScope N ps (defScope st)) (len : ∀ vs H Q E, sp vs H Q E → vs.length = ps.length)
    (hbody : ∀ (A : Around) (outer : List Env) (s : Shared) (H : Hp) (vs : List V) (Q : VK) (E : XK), Room k (A.deeper (envOfC qual (defScope st) s.heap.objs.size f (.ref c))) → sp vs H Q E →
      ∃ t, PSs (cxOf CX0 P w K mg base N qual (defScope st) f (.ref c) A outer s H E).nox (defBody st) t ∧ t { nx := fun _ H' => Q .non H', rt := Q } (L2.start N vs) H) : FnOk P w K mg base CX0 (k + 1) f fd ps sp := by
  obtain ⟨oc, od, kV, doc, pm, an, ct, osl, rfl, lk, hcd⟩ := F.ex
  refine fn_of lk hcd S len fun A outer s H vs Q E hr hsp => ?_
  obtain ⟨t, h, q⟩ := hbody A outer s H vs Q E hr hsp
  exact ⟨t, h.nox, q⟩
end
/-! ### the tables stay tables -/
def KeepN (b : Addr) (H H' : Hp) : Prop := ∀ a o, H a = some o → a ≠ b → (∀ ps, o ≠ .tbl ps) → H' a = some o
theorem KeepN.of_keep {b : Addr} {H H' : Hp} (k : Keep b H H') : KeepN b H H' := fun a o e n _ => k a o e n
theorem KeepN.of_ext {b : Addr} {H H' : Hp} (k : LamX.ExtN H H') : KeepN b H H' := fun a o e _ n => k a o e n
theorem KeepN.trans {b : Addr} {H H1 H2 : Hp} (x : KeepN b H H1) (y : KeepN b H1 H2) : KeepN b H H2 := fun a o e n m => y a o (x a o e n m) n m
theorem ext_of {H H' : Hp} (s : Same H H') : LamX.ExtN H H' := LamX.ExtN.of s
theorem ext_at {H0 H : Hp} {D : Addr} {o : HO} (s : LamX.ExtN H0 H) (n : H D = none) : LamX.ExtN H0 (upd H D o) := s.trans (ext_of (same_upd n))
theorem tpl_ne {q : Q} (ps : Array Value) : tpl q ≠ .tbl ps := fun z => by unfold tpl at z; cases z
theorem FrV.ext {H H' : Hp} {v : V} {q : Q} (h : FrV H v q) (s : LamX.ExtN H H') : FrV H' v q := by
  obtain ⟨p, e, f⟩ := h
  exact ⟨p, e, s _ _ f tpl_ne⟩
theorem FrV.keepN {b : Addr} {H H' : Hp} {v : V} {q : Q} (h : FrV H v q) (x : BoxAt H b) (k : KeepN b H H') : FrV H' v q := by
  obtain ⟨p, e, f⟩ := h
  exact ⟨p, e, k _ _ f (x.ne_tup f) tpl_ne⟩
theorem BoxAt.ext {H H' : Hp} {b : Addr} (h : BoxAt H b) (s : LamX.ExtN H H') : BoxAt H' b := by
  obtain ⟨g, m, n, e⟩ := h
  exact ⟨g, m, n, s _ _ e (fun ps z => by cases z)⟩
theorem codeO_lst {c : Addr} {q : Str} {xs : List V} : LamX.CodeO c q ≠ .lst xs := fun z => by
  unfold LamX.CodeO at z
  cases z
theorem tabs_keep {T : List (Addr × Str)} {b : Addr} {H H' : Hp} (t : LamX.Tabs T H) (x : BoxAt H b) (k : Keep b H H') : LamX.Tabs T H' := fun p hp => by
  obtain ⟨ps, h1, h2, h3⟩ := t p hp
  obtain ⟨g, m, n, e⟩ := x
  refine ⟨ps, k _ _ h1 (M02.ne_of h1 e (by intro z; cases z)), h2, fun pos cv hc => ?_⟩
  obtain ⟨c, e1, e2⟩ := h3 pos cv hc
  exact ⟨c, e1, k _ _ e2 (M02.ne_of e2 e codeO_lst)⟩
/-! ### fractions compared -/
def dQ (q : Q) : PyData := .tuple [.int q.1, .int q.2]
theorem dpQ {K : PySem.W.Frag} {H : Hp} {p : Addr} {q : Q} (e : H p = some (tpl q)) : Dp K H (.ref p) (dQ q) := .tup (sq_tup e) (.cons (.int _) (.cons (.int _) .nil))
theorem shpQ (q : Q) : SeqAt.shaped (dQ q) = true := by
  unfold SeqAt.shaped
  rw [Bool.and_eq_true]
  exact ⟨by simp [dQ, PyData.canLay0, PyData.canLayAll0], by simp [dQ, PyData.depth, PyData.depthAll]⟩
theorem eqvQ (q : Q) : PyData.eqv (dQ q) (dQ q) = true := SeqAt.eqv_refl _ (SeqAt.canLay_of_shaped (shpQ q))
theorem neQ {K : PySem.W.Frag} {H : Hp} {p p' : Addr} {q : Q} {Q' : VK} (e1 : H p = some (tpl q)) (e2 : H p' = some (tpl q)) (k : Q' (.bl false) H) : rNeD K (.ref p) (.ref p') H Q' := by
  refine ⟨dQ q, dQ q, dpQ e1, dpQ e2, shpQ q, shpQ q, ?_⟩
  rw [eqvQ]; exact k
theorem eqQ {K : PySem.W.Frag} {H : Hp} {p p' : Addr} {q : Q} {Q' : VK} (e1 : H p = some (tpl q)) (e2 : H p' = some (tpl q)) (k : Q' (.bl true) H) : rEqD K (.ref p) (.ref p') H Q' := by
  refine ⟨dQ q, dQ q, dpQ e1, dpQ e2, shpQ q, shpQ q, ?_⟩
  rw [eqvQ]; exact k
/-! ### bounds -/
theorem big {n : Nat} (h : n < 2 ^ 60) : n < 2 ^ 8000 := Nat.lt_of_lt_of_le h (Nat.pow_le_pow_right (by decide) (by decide))
theorem sum_ok {x y u v : Int} (hx : x.natAbs < 2 ^ 24) (hy : y.natAbs < 2 ^ 24) (hu : u.natAbs < 2 ^ 24) (hv : v.natAbs < 2 ^ 24) : (x * y + u * v).natAbs < 2 ^ 8000 := by
  have a := wide_lt hx hy
  have b := wide_lt hu hv
  have e1 : (2 : Nat) ^ (24 + 24) = 281474976710656 := by decide
  have e2 : (2 : Nat) ^ 60 = 1152921504606846976 := by decide
  refine big ?_
  rw [e1] at a b
  rw [e2]; omega
theorem dif_ok {x y u v : Int} (hx : x.natAbs < 2 ^ 24) (hy : y.natAbs < 2 ^ 24) (hu : u.natAbs < 2 ^ 24) (hv : v.natAbs < 2 ^ 24) : (x * y - u * v).natAbs < 2 ^ 8000 := by
  have a := wide_lt hx hy
  have b := wide_lt hu hv
  have e1 : (2 : Nat) ^ (24 + 24) = 281474976710656 := by decide
  have e2 : (2 : Nat) ^ 60 = 1152921504606846976 := by decide
  refine big ?_
  rw [e1] at a b
  rw [e2]; omega
theorem fr_b1 {t b : Int} (hb : b ≠ 0) (h : t.natAbs < 2 ^ 8000) : (frac t b).1.natAbs < 2 ^ 8000 := Nat.lt_of_le_of_lt (frac_le t b hb).1 h
theorem fr_b2 {t b : Int} (hb : b ≠ 0) (h : b.natAbs < 2 ^ 8000) : (frac t b).2.natAbs < 2 ^ 8000 := Nat.lt_of_le_of_lt (frac_le t b hb).2 h
theorem sm01 : SmQ (0, 1) := ⟨by decide, by decide, by decide⟩
theorem len1 {x : V} : [x].length ≤ sizeLine := by
  rw [sizeLine_eq]
  exact (by decide : 1 ≤ 16777216)
end M02

namespace M02
open PySem PySem.Spec PyProof.Rows L2 SX
open C8 (Cal pe_c pe_gc pss_cut)
/-- new, as far as it is no table -/
def FreeN (H : Hp) (l : Addr) : Prop := ∀ o, H l = some o → ∃ ps, o = .tbl ps
theorem freeN_of {H H' : Hp} {l : Addr} (x : LamX.ExtN H H') (n : H' l = none) : FreeN H l := fun o e => by
  refine Classical.byContradiction fun h => ?_
  rw [x _ _ e (fun ps z => h ⟨ps, z⟩)] at n
  cases n
theorem ext_put {H H' : Hp} {l : Addr} {o : HO} (x : LamX.ExtN H H') (n : FreeN H l) : LamX.ExtN H (upd H' l o) := fun b u e h => by
  by_cases hb : b = l
  · subst hb
    obtain ⟨ps, z⟩ := n u e
    exact absurd z (h ps)
  · rw [upd_ne hb]; exact x _ _ e h
theorem tabs_put {T : List (Addr × Str)} {l : Addr} {H : Hp} {xs : List V} {o : HO} (t : LamX.Tabs T H) (e : H l = some (.lst xs)) : LamX.Tabs T (upd H l o) := fun p hp => by
  obtain ⟨ps, h1, h2, h3⟩ := t p hp
  refine ⟨ps, by rw [upd_ne (M02.ne_of h1 e (by intro z; cases z))]; exact h1, h2, fun pos cv hc => ?_⟩
  obtain ⟨c, e1, e2⟩ := h3 pos cv hc
  exact ⟨c, e1, by rw [upd_ne (M02.ne_of e2 e codeO_lst)]; exact e2⟩
/-! ### two errors told -/
def dE (x y : Str) : PyData := .tuple [.str x, .str y]
def dF (x y : Str) : PyData := .list [dE x y, dE x y]
theorem shpN : SeqAt.shaped (dF "number" "zero") = true := by decide +kernel
theorem shpR : SeqAt.shaped (dF "refused" "none") = true := by decide +kernel
theorem dpF {K : PySem.W.Frag} {H : Hp} {l a b : Addr} {x y : Str} (hl : H l = some (.lst [.ref a, .ref b])) (ha : H a = some (.tup [.str x, .str y])) (hb : H b = some (.tup [.str x, .str y])) : Dp K H (.ref l) (dF x y) :=
  .lst (sq_lst hl) (.cons (.tup (sq_tup ha) (.cons (.str _) (.cons (.str _) .nil))) (.cons (.tup (sq_tup hb) (.cons (.str _) (.cons (.str _) .nil))) .nil))
theorem neF {K : PySem.W.Frag} {H : Hp} {l a b l' a' b' : Addr} {x y : Str} {Q' : VK} (sh : SeqAt.shaped (dF x y) = true) (hl : H l = some (.lst [.ref a, .ref b])) (ha : H a = some (.tup [.str x, .str y])) (hb : H b = some (.tup [.str x, .str y]))
    (hl' : H l' = some (.lst [.ref a', .ref b'])) (ha' : H a' = some (.tup [.str x, .str y])) (hb' : H b' = some (.tup [.str x, .str y])) (k : Q' (.bl false) H) : rNeD K (.ref l) (.ref l') H Q' := by
  refine ⟨dF x y, dF x y, dpF hl ha hb, dpF hl' ha' hb', sh, sh, ?_⟩
  rw [SeqAt.eqv_refl _ (SeqAt.canLay_of_shaped sh)]; exact k
theorem len5 {x y z u v : V} : [x, y, z, u, v].length ≤ sizeLine := by
  rw [sizeLine_eq]
  exact (by decide : 5 ≤ 16777216)
theorem rep2 (x : V) : (List.replicate (2 : Int).toNat [x]).flatten = [x, x] := rfl
theorem fr01 : Fr (0, 1) := ⟨by decide, by decide⟩
section
variable {P : Program} {w : World} {K : PySem.W.Frag} {mg : Str → Option Value} {base : Heap}
abbrev s_Lpair_right : Stmt := topS 32
abbrev n_Lpair_right : List Str := ["box", "one", "other", "b", "c", "d", "found", "factor", "a"]
theorem sc_Lpair_right : FnScope n_Lpair_right ["box", "one", "other"] (defScope s_Lpair_right) := ⟨rfl, rfl, rfl, by decide +kernel, rfl, by decide +kernel, by decide +kernel⟩
abbrev qA : Str := (envOfC "_law_pair_right" (defScope s_Lpair_right) 0 0 .none).qual ++ "<lambda>"
def spPair (T : List (Addr × Str)) : Sp := fun vs H Q _ => ∃ (b : Addr) (v1 v2 : V) (q1 q2 : M02.Q), vs = [.ref b, v1, v2] ∧ BoxAt H b ∧ FrV H v1 q1 ∧ FrV H v2 q2 ∧ SmQ q1 ∧ SmQ q2 ∧ Fr q1 ∧ Fr q2 ∧ LamX.Tabs T H ∧ ∀ H', BoxAt H' b → KeepN b H H' → LamX.Tabs T H' → Q (.bl true) H'
structure PairC (P : Program) (w : World) (K : PySem.W.Frag) (mg : Str → Option Value) (base : Heap) (CN : Addr) : Prop where
  fraction_of : CalX P w K mg base 3 "fraction_of" (spFrac CN)
  parted : CalX P w K mg base 4 "parted" (spPart CN)
  added : Cal P w K mg base 4 "added" (spTwo fun a b => (a.1 * b.2 + b.1 * a.2, a.2 * b.2)) []
  taken : Cal P w K mg base 4 "taken" (spTwo fun a b => (a.1 * b.2 - b.1 * a.2, a.2 * b.2)) []
  timed : Cal P w K mg base 4 "timed" (spTwo fun a b => (a.1 * b.1, a.2 * b.2)) []
  is_less : Cal P w K mg base 1 "is_less" spLess []
  whole : Cal P w K mg base 1 "whole" spWhole []
  kadded : CalK P w K mg base 4 "added" ["other", "one"] sw (spTwo fun a b => (a.1 * b.2 + b.1 * a.2, a.2 * b.2))
  ktaken : CalK P w K mg base 4 "taken" ["other", "one"] sw (spTwo fun a b => (a.1 * b.2 - b.1 * a.2, a.2 * b.2))
  ktimed : CalK P w K mg base 4 "timed" ["other", "one"] sw (spTwo fun a b => (a.1 * b.1, a.2 * b.2))
  kparted : CalK P w K mg base 4 "parted" ["other", "one"] sw (spPart CN)
  kis_less : CalK P w K mg base 1 "is_less" ["other", "one"] sw spLess
  kfraction_of : CalK P w K mg base 3 "fraction_of" ["bottom", "top"] sw (spFrac CN)
  kwhole : CalK P w K mg base 1 "whole" ["number"] id spWhole
  pick : Cal P w K mg base 2 "_law_pick" (spPick K) []
  equals : Cal P w K mg base 3 "_law_equals" spEquals []
  truth : Cal P w K mg base 1 "_law_truth" spTruth []
theorem ok_Lpair_right {f c PA CN CR : Addr} {T : List (Addr × Str)} {fd : FuncData} (F : FunC K "_law_pair_right" "_law_pair_right" s_Lpair_right f fd c) (TB : LamX.TabB base mg c PA) (HM : (PA, qA) ∈ T) (HU : ∀ p ∈ T, p.1 = PA → p.2 = qA)
    (R : Df K mg "_law_refused" s_Lrefused ["action"]) (E2 : Ex2 K mg CN CR) (C : PairC P w K mg base CN) : FnOk P w K mg base CX0 9 f fd ["box", "one", "other"] (spPair T) := by
  obtain ⟨x_fraction_of, x_parted, c_added, c_taken, c_timed, c_is_less, c_whole, k_added_other_one, k_taken_other_one, k_timed_other_one, k_parted_other_one, k_is_less_other_one, k_fraction_of_bottom_top, k_whole_number, c_Lpick, c_Lequals, c_Ltruth⟩ := C
  refine F.ok sc_Lpair_right (fun vs H Q E h => ?_) (fun A outer s H vs Q E hr h => ?_)
  · obtain ⟨b, v1, v2, q1, q2, rfl, _⟩ := h
    rfl
  · obtain ⟨b, v1, v2, q1, q2, rfl, hb, r1, r2, m1, m2, g1, g2, ht, k⟩ := h
    have f1 : ∀ {H' : Hp}, Same H H' → FrV H' v1 q1 := fun s => r1.same s
    have f2 : ∀ {H' : Hp}, Same H H' → FrV H' v2 q2 := fun s => r2.same s
    have nz : q1.2 * q2.2 ≠ 0 := bot_ne m1 m2
    have nz' : q2.2 * q1.2 ≠ 0 := bot_ne m2 m1
    have bb := bot_ok m1.bot m2.bot
    have bb' := bot_ok m2.bot m1.bot
    refine ⟨_, (pss_cut (ps_asg (pe_tup (pa_cons (pv 1) (pa_cons (pv 2) pa_nil))) (pg_tup rfl (pgs_cons (pg_tup rfl (pgs_cons (pg_name (i := 8) sc_Lpair_right.nd rfl (.inr rfl)) (pgs_cons (pg_name (i := 3) sc_Lpair_right.nd rfl (.inl rfl)) pgs_nil))) (pgs_cons (pg_tup rfl (pgs_cons (pg_name (i := 4) sc_Lpair_right.nd rfl (.inl rfl)) (pgs_cons (pg_name (i := 5) sc_Lpair_right.nd rfl (.inl rfl)) pgs_nil))) pgs_nil))))
      (pss_cut (ps_if (PW.pt (pw_or (pt_not (pt_val (pe_c c_Lequals hr (by decide) (by rfl) (pa_cons (pe_c c_added hr (by decide) (by rfl) (pa_cons (pv 1) (pa_cons (pv 2) pa_nil))) (pa_cons (pe_op op_add (pe_op op_mul (pv 8) (pv 5)) (pe_op op_mul (pv 4) (pv 3))) (pa_cons (pe_op op_mul (pv 3) (pv 5)) pa_nil)))))) (pw_or1 (pt_cmpR (op_neD hr.units) (pe_kw k_added_other_one hr (by decide) (by rfl) (pk_cons (pv 1) (pk_cons (pv 2) pk_nil))) (pe_c c_added hr (by decide) (by rfl) (pa_cons (pv 1) (pa_cons (pv 2) pa_nil))) (nomark _))))) (pss_one (ps_ret pe_bl)) pss_nil)
      (pss_cut (ps_if (PW.pt (pw_or (pt_not (pt_val (pe_c c_Lequals hr (by decide) (by rfl) (pa_cons (pe_c c_taken hr (by decide) (by rfl) (pa_cons (pv 1) (pa_cons (pv 2) pa_nil))) (pa_cons (pe_op op_sub (pe_op op_mul (pv 8) (pv 5)) (pe_op op_mul (pv 4) (pv 3))) (pa_cons (pe_op op_mul (pv 3) (pv 5)) pa_nil)))))) (pw_or1 (pt_not (pt_val (pe_c c_Lequals hr (by decide) (by rfl) (pa_cons (pe_kw k_taken_other_one hr (by decide) (by rfl) (pk_cons (pv 1) (pk_cons (pv 2) pk_nil))) (pa_cons (pe_op op_sub (pe_op op_mul (pv 4) (pv 3)) (pe_op op_mul (pv 8) (pv 5))) (pa_cons (pe_op op_mul (pv 3) (pv 5)) pa_nil))))))))) (pss_one (ps_ret pe_bl)) pss_nil)
      (pss_cut (ps_if (PW.pt (pw_or (pt_not (pt_val (pe_c c_Lequals hr (by decide) (by rfl) (pa_cons (pe_c c_timed hr (by decide) (by rfl) (pa_cons (pv 1) (pa_cons (pv 2) pa_nil))) (pa_cons (pe_op op_mul (pv 8) (pv 4)) (pa_cons (pe_op op_mul (pv 3) (pv 5)) pa_nil)))))) (pw_or1 (pt_cmpR (op_neD hr.units) (pe_kw k_timed_other_one hr (by decide) (by rfl) (pk_cons (pv 1) (pk_cons (pv 2) pk_nil))) (pe_c c_timed hr (by decide) (by rfl) (pa_cons (pv 1) (pa_cons (pv 2) pa_nil))) (nomark _))))) (pss_one (ps_ret pe_bl)) pss_nil)
      (pss_cut (ps_if (PW.pt (pw_and (pt_cmpR op_ne (pv 4) pe_int (nomark _)) (pw_and1 (PW.pt (pw_or (pt_not (pt_val (pe_c c_Lequals hr (by decide) (by rfl) (pa_cons (pe_x x_parted hr (by decide) (by rfl) (pa_cons (pv 1) (pa_cons (pv 2) pa_nil))) (pa_cons (pe_op op_mul (pv 8) (pv 5)) (pa_cons (pe_op op_mul (pv 3) (pv 4)) pa_nil)))))) (pw_or1 (pt_cmpR (op_neD hr.units) (pe_kw k_parted_other_one hr (by decide) (by rfl) (pk_cons (pv 2) (pk_cons (pv 1) pk_nil))) (pe_x x_parted hr (by decide) (by rfl) (pa_cons (pv 1) (pa_cons (pv 2) pa_nil))) (nomark _)))))))) (pss_one (ps_ret pe_bl)) pss_nil)
      (pss_cut (ps_if (PW.pt (pw_or (pt_not (pt_val (pe_c c_Ltruth hr (by decide) (by rfl) (pa_cons (pe_c c_is_less hr (by decide) (by rfl) (pa_cons (pv 1) (pa_cons (pv 2) pa_nil))) (pa_cons (pe_cmpR op_lt (pe_op op_mul (pv 8) (pv 5)) (pe_op op_mul (pv 4) (pv 3)) (nomark _)) pa_nil))))) (pw_or1 (pt_not (pt_val (pe_c c_Ltruth hr (by decide) (by rfl) (pa_cons (pe_kw k_is_less_other_one hr (by decide) (by rfl) (pk_cons (pv 1) (pk_cons (pv 2) pk_nil))) (pa_cons (pe_cmpR op_lt (pe_op op_mul (pv 4) (pv 3)) (pe_op op_mul (pv 8) (pv 5)) (nomark _)) pa_nil)))))))) (pss_one (ps_ret pe_bl)) pss_nil)
      (pss_cut (ps_set (i := 6) sc_Lpair_right.nd rfl (.inl rfl) (pe_lst (pa_cons (pe_ref (k := 6) R E2 TB rfl HM HU hr (by decide) (by rfl) (LamX.lamS_by (show LamX.lamSB (defScope s_Lpair_right) _ = true from (by decide +kernel))) rfl (fun _ _ _ _ _ => rfl) (fun A outer s H E f c2 hr => pe_xE (passes_call (takes_of rfl rfl rfl rfl) fun _ _ _ _ z => z) x_parted hr (by decide) (by rfl) (pa_cons (pv 1) (pa_cons (pe_tup (pa_cons pe_int (pa_cons pe_int pa_nil))) pa_nil)))) pa_nil)))
      (pss_cut (ps_expr (pe_bm PySem.F.plainAttrs_list PySem.F.slot_list_append PySem.F.type_list_append mt_append (pv 6) (pa_cons (pe_ref (k := 6) R E2 TB rfl HM HU hr (by decide) (by rfl) (LamX.lamS_by (show LamX.lamSB (defScope s_Lpair_right) _ = true from (by decide +kernel))) rfl (fun _ _ _ _ _ => rfl) (fun A outer s H E f c2 hr => pe_xE (passes_call (takes_of rfl rfl rfl rfl) fun _ _ _ _ z => z) x_fraction_of hr (by decide) (by rfl) (pa_cons (pv 8) (pa_cons pe_int pa_nil)))) pa_nil)))
      (pss_cut (ps_if (PW.pt (pw_or (pt_cmpR (op_neD hr.units) (pv 6) (pe_op op_rep (pe_lst (pa_cons (pe_tup (pa_cons pe_str (pa_cons pe_str pa_nil))) pa_nil)) pe_int) (nomark _)) (pw_or (pt_cmpR op_isnot_bl (pe_c c_is_less hr (by decide) (by rfl) (pa_cons (pv 1) (pa_cons (pv 1) pa_nil))) pe_bl (by rfl)) (pw_or1 (pt_cmpR (op_neD hr.units) (pe_c c_taken hr (by decide) (by rfl) (pa_cons (pv 1) (pa_cons (pv 1) pa_nil))) (pe_tup (pa_cons pe_int (pa_cons pe_int pa_nil))) (nomark _)))))) (pss_one (ps_ret pe_bl)) pss_nil)
      (pss_cut (ps_set (i := 7) sc_Lpair_right.nd rfl (.inl rfl) (pe_c c_Lpick hr (by decide) (by rfl) (pa_cons (pv 0) (pa_cons (pe_lst (pa_cons pe_int (pa_cons (pe_op op_sub pe_int pe_int) (pa_cons pe_int (pa_cons (pe_op op_sub pe_int pe_int) (pa_cons pe_int pa_nil)))))) pa_nil))))
      (pss_cut (ps_if (PW.pt (pw_or (pt_cmpR (op_neD hr.units) (pe_x x_fraction_of hr (by decide) (by rfl) (pa_cons (pe_op op_mul (pv 8) (pv 7)) (pa_cons (pe_op op_mul (pv 3) (pv 7)) pa_nil))) (pv 1) (nomark _)) (pw_or1 (pt_cmpR (op_neD hr.units) (pe_kw k_fraction_of_bottom_top hr (by decide) (by rfl) (pk_cons (pe_op op_sub pe_int (pv 3)) (pk_cons (pv 8) pk_nil))) (pe_tup (pa_cons (pe_op op_sub pe_int (pv 8)) (pa_cons (pv 3) pa_nil))) (nomark _))))) (pss_one (ps_ret pe_bl)) pss_nil)
      (pss_one (ps_ret (pe_and (pe_cmpR (op_eqD hr.units) (pe_x x_fraction_of hr (by decide) (by rfl) (pa_cons pe_int (pa_cons (pv 7) pa_nil))) (pe_tup (pa_cons pe_int (pa_cons pe_int pa_nil))) (nomark _)) (pe_and (pe_cmpR (op_eqD hr.units) (pe_c c_whole hr (by decide) (by rfl) (pa_cons (pv 8) pa_nil)) (pe_tup (pa_cons (pv 8) (pa_cons pe_int pa_nil))) (nomark _)) (pe_one (pe_cmpR (op_eqD hr.units) (pe_kw k_whole_number hr (by decide) (by rfl) (pk_cons (pv 5) pk_nil)) (pe_tup (pa_cons (pv 5) (pa_cons pe_int pa_nil))) (nomark _)))))))))))))))))), ?_⟩
    refine ⟨fun σ H' => σ = [some (.ref b), some v1, some v2, some (.int q1.2), some (.int q2.1), some (.int q2.2), none, none, some (.int q1.1)] ∧ Same H H', ?_, fun σ H' hM => ?_⟩
    · obtain ⟨p1, rfl, h1⟩ := r1
      obtain ⟨p2, rfl, h2⟩ := r2
      refine ⟨_, rfl, _, rfl, two_ok, fun D nD => ?_⟩
      have s1 : Same H (upd H D (.tup [.ref p1, .ref p2])) := same_upd nD
      exact ⟨D, _, rfl, sq_tup upd_same, rfl, _, _, rfl, ⟨p1, _, rfl, sq_tup (s1 _ _ h1), rfl, _, _, rfl, _, _, rfl, rfl, _, _, rfl, p2, _, rfl, sq_tup (s1 _ _ h2), rfl, _, _, rfl, _, _, rfl, rfl, rfl, rfl, s1⟩⟩
    obtain ⟨rfl, z⟩ := hM
    refine ⟨fun σ H' => σ = [some (.ref b), some v1, some v2, some (.int q1.2), some (.int q2.1), some (.int q2.2), none, none, some (.int q1.1)] ∧ Same H H', ?_, fun σ H' hM => ?_⟩
    · refine ⟨_, rfl, _, rfl, v1, v2, q1, q2, rfl, f1 z, f2 z, m1, m2, fun p np => ?_⟩
      have z1 := same_at (o := tpl (frac (q1.1 * q2.2 + q2.1 * q1.2) (q1.2 * q2.2))) z (z.free np)
      refine ⟨_, rfl, _, rfl, _, _, rfl, rfl, .inl (m40 m1.top), _, rfl, _, rfl, _, _, rfl, rfl, .inl (m40 m2.top), _, _, rfl, rfl, _, rfl, _, rfl, _, _, rfl, rfl, .inl (m40 m1.bot), ?_⟩
      have bt := sum_ok m1.top m2.bot m2.top m1.bot
      refine ⟨p, _, _, _, rfl, upd_same, frac_fr _ _ nz, fr_b1 nz bt, fr_b2 nz bb, bt, bb, frac_cross _ _ nz, fun H2 s2 => ⟨true, rfl, iteF ?_⟩⟩
      have z2 := z1.trans s2
      refine ⟨_, rfl, _, rfl, v2, v1, q2, q1, rfl, f2 z2, f1 z2, m2, m1, fun p3 np3 => ?_⟩
      have z3 := same_at (o := tpl (frac (q2.1 * q1.2 + q1.1 * q2.2) (q2.2 * q1.2))) z2 (z2.free np3)
      refine ⟨_, rfl, _, rfl, v1, v2, q1, q2, rfl, f1 z3, f2 z3, m1, m2, fun p4 np4 => ?_⟩
      have ec : frac (q2.1 * q1.2 + q1.1 * q2.2) (q2.2 * q1.2) = frac (q1.1 * q2.2 + q2.1 * q1.2) (q1.2 * q2.2) := by rw [Int.add_comm, Int.mul_comm q2.2]
      exact neQ (q := frac (q1.1 * q2.2 + q2.1 * q1.2) (q1.2 * q2.2)) (by rw [upd_ne (ne_of_none upd_same np4)]; show upd _ _ _ _ = _; rw [upd_same, ec]) upd_same ⟨_, rfl, iteF ⟨rfl, same_at z3 (z3.free np4)⟩⟩
    obtain ⟨rfl, z⟩ := hM
    refine ⟨fun σ H' => σ = [some (.ref b), some v1, some v2, some (.int q1.2), some (.int q2.1), some (.int q2.2), none, none, some (.int q1.1)] ∧ Same H H', ?_, fun σ H' hM => ?_⟩
    · refine ⟨_, rfl, _, rfl, v1, v2, q1, q2, rfl, f1 z, f2 z, m1, m2, fun p np => ?_⟩
      have z1 := same_at (o := tpl (frac (q1.1 * q2.2 - q2.1 * q1.2) (q1.2 * q2.2))) z (z.free np)
      refine ⟨_, rfl, _, rfl, _, _, rfl, rfl, .inl (m40 m1.top), _, rfl, _, rfl, _, _, rfl, rfl, .inl (m40 m2.top), _, _, rfl, rfl, _, rfl, _, rfl, _, _, rfl, rfl, .inl (m40 m1.bot), ?_⟩
      have bt := dif_ok m1.top m2.bot m2.top m1.bot
      have bt' := dif_ok m2.top m1.bot m1.top m2.bot
      refine ⟨p, _, _, _, rfl, upd_same, frac_fr _ _ nz, fr_b1 nz bt, fr_b2 nz bb, bt, bb, frac_cross _ _ nz, fun H2 s2 => ⟨true, rfl, iteF ?_⟩⟩
      have z2 := z1.trans s2
      refine ⟨_, rfl, _, rfl, v2, v1, q2, q1, rfl, f2 z2, f1 z2, m2, m1, fun p3 np3 => ?_⟩
      have z3 := same_at (o := tpl (frac (q2.1 * q1.2 - q1.1 * q2.2) (q2.2 * q1.2))) z2 (z2.free np3)
      refine ⟨_, rfl, _, rfl, _, _, rfl, rfl, .inl (m40 m2.top), _, rfl, _, rfl, _, _, rfl, rfl, .inl (m40 m1.top), _, _, rfl, rfl, _, rfl, _, rfl, _, _, rfl, rfl, .inl (m40 m1.bot), ?_⟩
      refine ⟨p3, _, _, _, rfl, upd_same, frac_fr _ _ nz', fr_b1 nz' bt', fr_b2 nz' bb', bt', bb, ?_, fun H4 s4 => ⟨true, rfl, iteF ⟨rfl, z3.trans s4⟩⟩⟩
      have cr := frac_cross (q2.1 * q1.2 - q1.1 * q2.2) (q2.2 * q1.2) nz'
      rw [Int.mul_comm q1.2 q2.2]; exact cr
    obtain ⟨rfl, z⟩ := hM
    refine ⟨fun σ H' => σ = [some (.ref b), some v1, some v2, some (.int q1.2), some (.int q2.1), some (.int q2.2), none, none, some (.int q1.1)] ∧ Same H H', ?_, fun σ H' hM => ?_⟩
    · refine ⟨_, rfl, _, rfl, v1, v2, q1, q2, rfl, f1 z, f2 z, m1, m2, fun p np => ?_⟩
      have z1 := same_at (o := tpl (frac (q1.1 * q2.1) (q1.2 * q2.2))) z (z.free np)
      refine ⟨_, rfl, _, rfl, _, _, rfl, rfl, .inl (m40 m1.top), _, rfl, _, rfl, _, _, rfl, rfl, .inl (m40 m1.bot), ?_⟩
      have bt := bot_ok m1.top m2.top
      refine ⟨p, _, _, _, rfl, upd_same, frac_fr _ _ nz, fr_b1 nz bt, fr_b2 nz bb, bt, bb, frac_cross _ _ nz, fun H2 s2 => ⟨true, rfl, iteF ?_⟩⟩
      have z2 := z1.trans s2
      refine ⟨_, rfl, _, rfl, v2, v1, q2, q1, rfl, f2 z2, f1 z2, m2, m1, fun p3 np3 => ?_⟩
      have z3 := same_at (o := tpl (frac (q2.1 * q1.1) (q2.2 * q1.2))) z2 (z2.free np3)
      refine ⟨_, rfl, _, rfl, v1, v2, q1, q2, rfl, f1 z3, f2 z3, m1, m2, fun p4 np4 => ?_⟩
      have ec : frac (q2.1 * q1.1) (q2.2 * q1.2) = frac (q1.1 * q2.1) (q1.2 * q2.2) := by rw [Int.mul_comm q2.1, Int.mul_comm q2.2]
      exact neQ (q := frac (q1.1 * q2.1) (q1.2 * q2.2)) (by rw [upd_ne (ne_of_none upd_same np4)]; show upd _ _ _ _ = _; rw [upd_same, ec]) upd_same ⟨_, rfl, iteF ⟨rfl, same_at z3 (z3.free np4)⟩⟩
    obtain ⟨rfl, z⟩ := hM
    refine ⟨fun σ H' => σ = [some (.ref b), some v1, some v2, some (.int q1.2), some (.int q2.1), some (.int q2.2), none, none, some (.int q1.1)] ∧ Same H H', ?_, fun σ H' hM => ?_⟩
    · refine ⟨_, rfl, rfl, _, rfl, ite2 (fun hc => ?_) (fun hc => iteF ⟨rfl, z⟩)⟩
      have hc : q2.1 ≠ 0 := fun e => by rw [e] at hc; simp at hc
      have nzp : q1.2 * q2.1 ≠ 0 := fun e => by
        rcases Int.mul_eq_zero.mp e with e | e
        · have := m1.pos; omega
        · exact hc e
      have bp := bot_ok m1.bot m2.top
      have bt := bot_ok m1.top m2.bot
      refine ⟨_, rfl, _, rfl, v1, v2, q1, q2, rfl, f1 z, f2 z, m1, m2, fun _ p np => ?_, fun e => absurd e hc⟩
      have z1 := same_at (o := tpl (frac (q1.1 * q2.2) (q1.2 * q2.1))) z (z.free np)
      refine ⟨_, rfl, _, rfl, _, _, rfl, rfl, .inl (m40 m1.top), _, rfl, _, rfl, _, _, rfl, rfl, .inl (m40 m1.bot), ?_⟩
      refine ⟨p, _, _, _, rfl, upd_same, frac_fr _ _ nzp, fr_b1 nzp bt, fr_b2 nzp bp, bt, bp, frac_cross _ _ nzp, fun H2 s2 => ⟨true, rfl, iteF ?_⟩⟩
      have z2 := z1.trans s2
      refine ⟨_, rfl, _, rfl, v1, v2, q1, q2, rfl, f1 z2, f2 z2, m1, m2, fun _ p3 np3 => ?_, fun e => absurd e hc⟩
      have z3 := same_at (o := tpl (frac (q1.1 * q2.2) (q1.2 * q2.1))) z2 (z2.free np3)
      refine ⟨_, rfl, _, rfl, v1, v2, q1, q2, rfl, f1 z3, f2 z3, m1, m2, fun _ p4 np4 => ?_, fun e => absurd e hc⟩
      exact neQ (q := frac (q1.1 * q2.2) (q1.2 * q2.1)) (by rw [upd_ne (ne_of_none upd_same np4)]; exact upd_same) upd_same ⟨_, rfl, iteF ⟨rfl, same_at z3 (z3.free np4)⟩⟩
    obtain ⟨rfl, z⟩ := hM
    refine ⟨fun σ H' => σ = [some (.ref b), some v1, some v2, some (.int q1.2), some (.int q2.1), some (.int q2.2), none, none, some (.int q1.1)] ∧ Same H H', ?_, fun σ H' hM => ?_⟩
    · refine ⟨_, rfl, _, rfl, v1, v2, q1, q2, rfl, f1 z, f2 z, m1, m2, ?_⟩
      refine ⟨_, rfl, _, rfl, _, _, rfl, rfl, .inl (m40 m1.top), _, rfl, _, rfl, _, _, rfl, rfl, .inl (m40 m2.top), _, _, rfl, rfl, _, rfl, true, rfl, iteF ?_⟩
      refine ⟨_, rfl, _, rfl, v2, v1, q2, q1, rfl, f2 z, f1 z, m2, m1, ?_⟩
      exact ⟨_, rfl, _, rfl, _, _, rfl, rfl, .inl (m40 m2.top), _, rfl, _, rfl, _, _, rfl, rfl, .inl (m40 m1.top), _, _, rfl, rfl, _, rfl, true, rfl, iteF ⟨rfl, z⟩⟩
    obtain ⟨rfl, z⟩ := hM
    refine ⟨fun σ H' => ∃ l e1, σ = [some (.ref b), some v1, some v2, some (.int q1.2), some (.int q2.1), some (.int q2.2), some (.ref l), none, some (.int q1.1)] ∧ LamX.ExtN H H' ∧ LamX.Tabs T H' ∧ FreeN H l ∧ H' l = some (.lst [.ref e1]) ∧ H' e1 = some (.tup [.str "number", .str "zero"]), ?_, fun σ H' hM => ?_⟩
    · refine ⟨ht.ext z, fun H1 x1 t1 => ?_⟩
      have x0 : LamX.ExtN H H1 := (ext_of z).trans x1
      refine ⟨_, rfl, two_ok, fun D nD => ?_⟩
      have xD : LamX.ExtN H (upd H1 D (.tup [.int 0, .int 1])) := ext_at x0 nD
      refine ⟨v1, .ref D, q1, (0, 1), rfl, r1.ext xD, ⟨D, rfl, upd_same⟩, m1, sm01, fun h => absurd rfl h, fun _ d H2 s2 ed => ⟨"number", d, _, .inl ⟨rfl, rfl⟩, rfl, ed, fun p np => ⟨len1, fun l nl => ?_⟩⟩⟩
      have x2 := xD.trans (ext_of s2)
      have x3 : LamX.ExtN H (upd H2 p (.tup [.str "number", .str "zero"])) := ext_at x2 np
      refine ⟨l, p, rfl, ext_at x3 nl, ?_, freeN_of x3 nl, upd_same, by rw [upd_ne (ne_of_none upd_same nl)]; exact upd_same⟩
      exact (((t1.ext (same_upd nD)).ext s2).ext (same_upd np)).ext (same_upd nl)
    obtain ⟨l, e1, rfl, x, t, nl, hl, he⟩ := hM
    refine ⟨fun σ H' => ∃ e2, σ = [some (.ref b), some v1, some v2, some (.int q1.2), some (.int q2.1), some (.int q2.2), some (.ref l), none, some (.int q1.1)] ∧ LamX.ExtN H H' ∧ LamX.Tabs T H' ∧ H' l = some (.lst [.ref e1, .ref e2]) ∧ H' e1 = some (.tup [.str "number", .str "zero"]) ∧ H' e2 = some (.tup [.str "number", .str "zero"]), ?_, fun σ H' hM => ?_⟩
    · refine ⟨_, rfl, .inl ⟨rfl, _, sq_lst hl⟩, t, fun H1 x1 t1 => ?_⟩
      refine ⟨_, rfl, q1.1, 0, rfl, Nat.lt_of_le_of_lt (Nat.zero_le _) bb, fun h => absurd rfl h, fun _ d H2 s2 ed => ⟨"number", d, _, .inl ⟨rfl, rfl⟩, rfl, ed, fun p np => ?_⟩⟩
      have y2 : LamX.ExtN H' H2 := x1.trans (ext_of s2)
      have y3 : LamX.ExtN H' (upd H2 p (.tup [.str "number", .str "zero"])) := ext_at y2 np
      have hl3 := y3 _ _ hl (fun ps z => by cases z)
      have he3 := y3 _ _ he (fun ps z => by cases z)
      refine ⟨l, _, .ref p, rfl, rfl, hl3, small1000 (show (1 : Nat) ≤ 1000 from by decide), p, rfl, ext_put (x.trans y3) nl, tabs_put ((t1.ext s2).ext (same_upd np)) hl3, upd_same, ?_, ?_⟩
      · rw [upd_ne (M02.ne_of he hl (by intro z; cases z))]; exact he3
      · rw [upd_ne (ne_of_none (y2 _ _ hl (fun ps z => by cases z)) np).symm]; exact upd_same
    obtain ⟨e2, rfl, x, t, hl, he1, he2⟩ := hM
    refine ⟨fun σ H' => σ = [some (.ref b), some v1, some v2, some (.int q1.2), some (.int q2.1), some (.int q2.2), some (.ref l), none, some (.int q1.1)] ∧ LamX.ExtN H H' ∧ LamX.Tabs T H', ?_, fun σ H' hM => ?_⟩
    · refine ⟨_, rfl, two_ok, fun t1 nt1 => ⟨len1, fun l1 nl1 => ⟨l1, 2, _, rfl, rfl, upd_same, by decide, by decide, by rw [sizeLine_eq]; exact (by decide : 1 * 2 ≤ 16777216), fun l2 nl2 => ?_⟩⟩⟩
      have a1 : Same H' (upd H' t1 (.tup [.str "number", .str "zero"])) := same_upd nt1
      have a2 := same_at (o := .lst [.ref t1]) a1 (a1.free nl1)
      have a3 := same_at (o := .lst [.ref t1, .ref t1]) a2 (a2.free nl2)
      have ht1 : (upd (upd H' t1 (.tup [.str "number", .str "zero"])) l1 (.lst [.ref t1])) t1 = some (.tup [.str "number", .str "zero"]) := by rw [upd_ne (ne_of_none upd_same nl1)]; exact upd_same
      have ht1' : (upd (upd (upd H' t1 (.tup [.str "number", .str "zero"])) l1 (.lst [.ref t1])) l2 (.lst [.ref t1, .ref t1])) t1 = some (.tup [.str "number", .str "zero"]) := by rw [upd_ne (ne_of_none ht1 nl2)]; exact ht1
      refine neF (x := "number") (y := "zero") shpN (a3 _ _ hl) (a3 _ _ he1) (a3 _ _ he2) upd_same ht1' ht1' ⟨_, rfl, iteF ?_⟩
      have xx := x.trans (ext_of a3)
      refine ⟨_, rfl, _, rfl, v1, v1, q1, q1, rfl, r1.ext xx, r1.ext xx, m1, m1, _, _, rfl, rfl, _, rfl, iteNS (decide_eq_false (Int.lt_irrefl _)) ?_⟩
      refine ⟨_, rfl, _, rfl, v1, v1, q1, q1, rfl, r1.ext xx, r1.ext xx, m1, m1, fun p np => ⟨two_ok, fun p' np' => ?_⟩⟩
      have ez : frac (q1.1 * q1.2 - q1.1 * q1.2) (q1.2 * q1.2) = (0, 1) := frac_is (bot_ne m1 m1) fr01 (by rw [Int.sub_self, Int.zero_mul, Int.zero_mul])
      refine neQ (q := (0, 1)) (by rw [upd_ne (ne_of_none upd_same np')]; show upd _ _ _ _ = _; rw [upd_same, ez]) upd_same ⟨_, rfl, iteF ⟨rfl, ext_at (ext_at xx np) np', ?_⟩⟩
      exact ((t.ext a3).ext (same_upd np)).ext (same_upd np')
    obtain ⟨rfl, x, t⟩ := hM
    refine ⟨fun σ H' => ∃ m : Int, σ = [some (.ref b), some v1, some v2, some (.int q1.2), some (.int q2.1), some (.int q2.2), some (.ref l), some (.int m), some (.int q1.1)] ∧ KeepN b H H' ∧ BoxAt H' b ∧ LamX.Tabs T H' ∧ m ≠ 0 ∧ m.natAbs ≤ 1024, ?_, fun σ H' hM => ?_⟩
    · refine ⟨_, rfl, _, _, rfl, rfl, _, _, rfl, rfl, len5, fun l1 nl1 => ?_⟩
      have hb0 := hb.ext x
      refine ⟨b, l1, _, rfl, hb0.same (same_upd nl1), upd_same, hb0.ne_of nl1, by simp, by simp, fun i v H2 hi hb2 kp => ?_⟩
      obtain ⟨m, rfl, m0, m4⟩ : ∃ m : Int, v = .int m ∧ m ≠ 0 ∧ m.natAbs ≤ 1024 := by
        have := List.mem_of_getElem? hi
        simp only [List.mem_cons, List.not_mem_nil, or_false] at this
        rcases this with rfl | rfl | rfl | rfl | rfl
        · exact ⟨_, rfl, by decide, by decide⟩
        · exact ⟨_, rfl, by decide, by decide⟩
        · exact ⟨_, rfl, by decide, by decide⟩
        · exact ⟨_, rfl, by decide, by decide⟩
        · exact ⟨_, rfl, by decide, by decide⟩
      exact ⟨m, rfl, (KeepN.of_ext (x.trans (ext_of (same_upd nl1)))).trans (.of_keep kp), hb2, tabs_keep (t.ext (same_upd nl1)) (hb0.same (same_upd nl1)) kp, m0, m4⟩
    obtain ⟨m, rfl, kn, hb1, t, m0, m4⟩ := hM
    obtain ⟨p1, rfl, h1⟩ := r1
    have hp1 : H' p1 = some (tpl q1) := kn _ _ h1 (hb.ne_tup h1) tpl_ne
    have mb : m.natAbs < 2 ^ 24 := Nat.lt_of_le_of_lt m4 (by decide)
    have pz := m1.pos
    refine ⟨fun σ H2 => σ = [some (.ref b), some (.ref p1), some v2, some (.int q1.2), some (.int q2.1), some (.int q2.2), some (.ref l), some (.int m), some (.int q1.1)] ∧ Same H' H2, ?_, fun σ H2 hM => ?_⟩
    · have nm : q1.2 * m ≠ 0 := fun e => by
        rcases Int.mul_eq_zero.mp e with e | e
        · omega
        · exact m0 e
      refine ⟨_, rfl, _, rfl, _, _, rfl, rfl, .inl (m40 m1.top), _, rfl, _, rfl, _, _, rfl, rfl, .inl (m40 m1.bot), _, _, rfl, bot_ok m1.bot mb, fun _ p np => ?_, fun e => absurd e nm⟩
      have e1 : frac (q1.1 * m) (q1.2 * m) = q1 := frac_is nm g1 (by ac_rfl)
      have s1 := same_upd (o := tpl (frac (q1.1 * m) (q1.2 * m))) np
      refine ⟨_, rfl, neQ (q := q1) (by show upd _ _ _ _ = _; rw [upd_same, e1]) (s1 _ _ hp1) ⟨_, rfl, iteF ?_⟩⟩
      have nn : 0 - q1.2 ≠ 0 := by omega
      have bn : (0 - q1.2).natAbs < 2 ^ 8000 := big (Nat.lt_of_lt_of_le (show (0 - q1.2).natAbs < 2 ^ 24 by have := m1.bot; omega) (Nat.pow_le_pow_right (by decide) (by decide)))
      refine ⟨_, rfl, _, _, rfl, rfl, _, rfl, _, _, rfl, bn, fun _ p' np' => ?_, fun e => absurd e nn⟩
      have s2 := same_at (o := tpl (frac q1.1 (0 - q1.2))) s1 (s1.free np')
      refine ⟨_, rfl, _, _, rfl, rfl, _, rfl, two_ok, fun p2 np2 => ?_⟩
      have e2 : frac q1.1 (0 - q1.2) = (0 - q1.1, q1.2) := frac_is nn ⟨g1.pos, by show Nat.gcd (0 - q1.1).natAbs _ = 1; rw [Int.zero_sub, Int.natAbs_neg]; exact g1.co⟩ (by show q1.1 * q1.2 = (0 - q1.1) * (0 - q1.2); rw [Int.zero_sub, Int.zero_sub, Int.neg_mul_neg])
      exact neQ (q := (0 - q1.1, q1.2)) (by rw [upd_ne (ne_of_none upd_same np2)]; show upd _ _ _ _ = _; rw [upd_same, e2]) upd_same ⟨_, rfl, iteF ⟨rfl, same_at s2 (s2.free np2)⟩⟩
    · obtain ⟨rfl, s1⟩ := hM
      refine ⟨_, rfl, _, _, rfl, big (Nat.lt_of_lt_of_le mb (Nat.pow_le_pow_right (by decide) (by decide))), fun _ p np => ⟨two_ok, fun p2 np2 => ?_⟩, fun e => absurd e m0⟩
      have s2 := same_at (o := tpl (frac 0 m)) s1 (s1.free np)
      have s3 := same_at (o := .tup [.int 0, .int 1]) s2 (s2.free np2)
      have e1 : frac 0 m = (0, 1) := frac_is m0 fr01 (by show (0 : Int) * 1 = 0 * m; rw [Int.zero_mul, Int.zero_mul])
      refine eqQ (q := (0, 1)) (by rw [upd_ne (ne_of_none upd_same np2)]; show upd _ _ _ _ = _; rw [upd_same, e1]) upd_same ⟨true, rfl, iteT ?_⟩
      refine ⟨_, rfl, _, rfl, fun p3 np3 => ⟨_, rfl, two_ok, fun p4 np4 => ?_⟩⟩
      have s4 := same_at (o := tpl (q1.1, 1)) s3 (s3.free np3)
      have s5 := same_at (o := .tup [.int q1.1, .int 1]) s4 (s4.free np4)
      refine eqQ (q := (q1.1, 1)) (by rw [upd_ne (ne_of_none upd_same np4)]; exact upd_same) upd_same ⟨true, rfl, iteT ?_⟩
      refine ⟨_, rfl, _, rfl, fun p5 np5 => ⟨_, rfl, two_ok, fun p6 np6 => ?_⟩⟩
      have s6 := same_at (o := tpl (q2.2, 1)) s5 (s5.free np5)
      have s7 := same_at (o := .tup [.int q2.2, .int 1]) s6 (s6.free np6)
      exact eqQ (q := (q2.2, 1)) (by rw [upd_ne (ne_of_none upd_same np6)]; exact upd_same) upd_same (k _ (hb1.same s7) (kn.trans (.of_keep (.of s7))) (t.ext s7))
end
end M02

namespace M02
open PySem PySem.Spec PyProof.Rows L2 SX
open C8 (Cal pe_c pe_gc pss_cut)
section
variable {P : Program} {w : World} {K : PySem.W.Frag} {mg : Str → Option Value} {base : Heap}
abbrev s_Lround_right : Stmt := topS 33
abbrev n_Lround_right : List Str := ["value", "top", "bottom", "low", "high"]
theorem sc_Lround_right : FnScope n_Lround_right ["value"] (defScope s_Lround_right) := ⟨rfl, rfl, rfl, by decide +kernel, rfl, by decide +kernel, by decide +kernel⟩
def spRound : Sp := fun vs H Q _ => ∃ (v : V) (q : M02.Q), vs = [v] ∧ FrV H v q ∧ SmQ q ∧ Fr q ∧ ∀ H', Same H H' → Q (.bl true) H'
theorem ok_Lround_right {f : Addr} {fd : FuncData} (F : Fun K "_law_round_right" "_law_round_right" s_Lround_right f fd) (c_floor_of : Cal P w K mg base 1 "floor_of" spFloor []) (c_ceiling_of : Cal P w K mg base 1 "ceiling_of" spCeil [])
    (k_floor_of_value : CalK P w K mg base 1 "floor_of" ["value"] id spFloor) (k_ceiling_of_value : CalK P w K mg base 1 "ceiling_of" ["value"] id spCeil) (c_Lis_integer : Cal P w K mg base 1 "_law_is_integer" (spWh K) []) : FnOk P w K mg base CX0 2 f fd ["value"] spRound := by
  refine F.ok sc_Lround_right (fun vs H Q E h => ?_) (fun cdv A outer s H vs Q E hr h => ?_)
  · obtain ⟨v, q, rfl, _⟩ := h
    rfl
  · obtain ⟨v, q, rfl, fr, sm, g, k⟩ := h
    refine ⟨_, (pss_cons (ps_asg (pe_tup (pa_cons (pv 0) (pa_cons (pe_c c_floor_of hr (by decide) (by rfl) (pa_cons (pv 0) pa_nil)) (pa_cons (pe_c c_ceiling_of hr (by decide) (by rfl) (pa_cons (pv 0) pa_nil)) pa_nil)))) (pg_tup rfl (pgs_cons (pg_tup rfl (pgs_cons (pg_name (i := 1) sc_Lround_right.nd rfl (.inl rfl)) (pgs_cons (pg_name (i := 2) sc_Lround_right.nd rfl (.inl rfl)) pgs_nil))) (pgs_cons (pg_name (i := 3) sc_Lround_right.nd rfl (.inl rfl)) (pgs_cons (pg_name (i := 4) sc_Lround_right.nd rfl (.inl rfl)) pgs_nil)))))
      (pss_cons (ps_if (PW.pt (pw_or (pt_not (pt_val (pe_c c_Lis_integer hr (by decide) (by rfl) (pa_cons (pv 3) pa_nil)))) (pw_or (pt_not (pt_val (pe_c c_Lis_integer hr (by decide) (by rfl) (pa_cons (pv 4) pa_nil)))) (pw_or (pt_cmpR op_ne (pe_kw k_floor_of_value hr (by decide) (by rfl) (pk_cons (pv 0) pk_nil)) (pv 3) (nomark _)) (pw_or1 (pt_cmpR op_ne (pe_kw k_ceiling_of_value hr (by decide) (by rfl) (pk_cons (pv 0) pk_nil)) (pv 4) (nomark _))))))) (pss_one (ps_ret pe_bl)) pss_nil)
      (pss_cons (ps_if (PW.pt (pw_or (pt_cmpR op_gt (pe_op op_mul (pv 3) (pv 2)) (pv 1) (nomark _)) (pw_or (pt_cmpR op_le (pe_op op_mul (pe_op op_add (pv 3) pe_int) (pv 2)) (pv 1) (nomark _)) (pw_or (pt_cmpR op_lt (pe_op op_mul (pv 4) (pv 2)) (pv 1) (nomark _)) (pw_or1 (pt_cmpR op_ge (pe_op op_mul (pe_op op_sub (pv 4) pe_int) (pv 2)) (pv 1) (nomark _))))))) (pss_one (ps_ret pe_bl)) pss_nil)
      (pss_one (ps_ret (pe_cmpR op_eq (pe_cmpR op_eq (pv 3) (pv 4) (nomark _)) (pe_cmpR op_eq (pv 2) pe_int (nomark _)) (nomark _))))))), ?_⟩
    obtain ⟨p, rfl, hp⟩ := id fr
    refine ⟨_, rfl, _, rfl, _, q, rfl, fr, sm, _, rfl, _, q, rfl, fr, sm, len3, fun D nD => ?_⟩
    have s1 : Same H (upd H D (.tup [.ref p, .int (q.1 / q.2), .int (-(-q.1 / q.2))])) := same_upd nD
    refine ⟨D, _, rfl, sq_tup upd_same, rfl, _, _, rfl, p, _, rfl, sq_tup (s1 _ _ hp), rfl, _, _, rfl, _, _, rfl, rfl, _, _, rfl, _, _, rfl, rfl, ?_⟩
    refine ⟨_, rfl, .int _, true, rfl, WhV.int _, true, rfl, iteF ⟨_, rfl, .int _, true, rfl, WhV.int _, true, rfl, iteF ⟨_, rfl, _, q, rfl, fr.same s1, sm, _, rfl, rfl, _, rfl, iteNS rfl ⟨_, rfl, _, q, rfl, fr.same s1, sm, _, rfl, rfl, _, rfl, iteNS rfl ?_⟩⟩⟩⟩
    have e1 := low_le q.1 q.2 sm.pos
    have e2 := low_gt q.1 q.2 sm.pos
    have e3 := high_ge q.1 q.2 sm.pos
    have e4 := high_lt q.1 q.2 sm.pos
    refine ⟨_, rfl, _, rfl, _, _, rfl, rfl, .inr (m40 sm.bot), _, rfl, _, _, rfl, rfl, _, rfl, ite2 (fun h => absurd (of_decide_eq_true h) (Int.not_lt.mpr e1)) (fun _ => ?_)⟩
    refine ⟨_, rfl, _, _, rfl, rfl, _, rfl, _, _, rfl, rfl, .inr (m40 sm.bot), _, rfl, _, _, rfl, rfl, _, rfl, ite2 (fun h => absurd (of_decide_eq_true h) (Int.not_le.mpr e2)) (fun _ => ?_)⟩
    refine ⟨_, rfl, _, rfl, _, _, rfl, rfl, .inr (m40 sm.bot), _, rfl, _, _, rfl, rfl, _, rfl, ite2 (fun h => absurd (of_decide_eq_true h) (Int.not_lt.mpr e3)) (fun _ => ?_)⟩
    refine ⟨_, rfl, _, _, rfl, rfl, _, rfl, _, _, rfl, rfl, .inr (m40 sm.bot), _, rfl, _, _, rfl, rfl, _, rfl, ite2 (fun h => absurd (of_decide_eq_true h) (Int.not_le.mpr e4)) (fun _ => ?_)⟩
    refine ⟨_, rfl, _, rfl, rfl, _, rfl, rfl, rfl, ?_⟩
    have e5 : decide (V.int (q.1 / q.2) = V.int (-(-q.1 / q.2))) = decide (V.int q.2 = V.int 1) :=
      decide_eq_decide.mpr ⟨fun z => by rw [(low_high g).mp (V.int.inj z)], fun z => by rw [(low_high g).mpr (V.int.inj z)]⟩
    rw [e5, decide_eq_true rfl]
    exact k _ s1
abbrev s_Lnear_right : Stmt := topS 35
abbrev n_Lnear_right : List Str := ["box", "many", "below", "near", "far"]
theorem sc_Lnear_right : FnScope n_Lnear_right ["box"] (defScope s_Lnear_right) := ⟨rfl, rfl, rfl, by decide +kernel, rfl, by decide +kernel, by decide +kernel⟩
def spNear : Sp := fun vs H Q _ => ∃ (b : Addr), vs = [.ref b] ∧ BoxAt H b ∧ ∀ H', BoxAt H' b → Keep b H H' → Q (.bl true) H'
theorem ok_Lnear_right {f CR : Addr} {fd : FuncData} (F : Fun K "_law_near_right" "_law_near_right" s_Lnear_right f fd) (c_Ltake : Cal P w K mg base 1 "_law_take" spTake []) (c_is_less : Cal P w K mg base 1 "is_less" spLess [])
    (x_least_of : CalX P w K mg base 3 "least_of" (spBest CR leQ)) (x_greatest_of : CalX P w K mg base 3 "greatest_of" (spBest CR fun q r => leQ r q)) : FnOk P w K mg base CX0 4 f fd ["box"] spNear := by
  refine F.ok sc_Lnear_right (fun vs H Q E h => ?_) (fun cdv A outer s H vs Q E hr h => ?_)
  · obtain ⟨b, rfl, _⟩ := h
    rfl
  · obtain ⟨b, rfl, hb, k⟩ := h
    refine ⟨_, (pss_cons (ps_par (i := 1) (j := 2) (by rfl) sc_Lnear_right.nd rfl rfl (by decide) rfl rfl (pa_cons (pe_op op_sub (pe_op op_sub (pe_op op_pow pe_int pe_int) pe_int) (pe_c c_Ltake hr (by decide) (by rfl) (pa_cons (pv 0) (pa_cons pe_int pa_nil)))) (pa_cons (pe_c c_Ltake hr (by decide) (by rfl) (pa_cons (pv 0) (pa_cons pe_int pa_nil))) pa_nil)) (by rfl))
      (pss_cons (ps_par (i := 3) (j := 4) (by rfl) sc_Lnear_right.nd rfl rfl (by decide) rfl rfl (pa_cons (pe_tup (pa_cons (pe_op op_sub (pv 1) pe_int) (pa_cons (pv 1) pa_nil))) (pa_cons (pe_tup (pa_cons (pv 1) (pa_cons (pe_op op_add (pv 1) pe_int) pa_nil))) pa_nil)) (by rfl))
      (pss_cut (ps_if (pt_cmpR op_eq (pv 2) pe_int (nomark _)) (pss_one (ps_par (i := 3) (j := 4) (by rfl) sc_Lnear_right.nd rfl rfl (by decide) rfl rfl (pa_cons (pe_tup (pa_cons (pe_op op_sub pe_int (pv 1)) (pa_cons (pe_op op_add (pv 1) pe_int) pa_nil))) (pa_cons (pe_tup (pa_cons (pe_op op_sub pe_int (pv 1)) (pa_cons (pv 1) pa_nil))) pa_nil)) (by rfl))) pss_nil)
      (pss_cons (ps_if (PW.pt (pw_or (pt_cmpR op_isnot_bl (pe_c c_is_less hr (by decide) (by rfl) (pa_cons (pv 3) (pa_cons (pv 4) pa_nil))) pe_bl (by rfl)) (pw_or1 (pt_cmpR op_isnot_bl (pe_c c_is_less hr (by decide) (by rfl) (pa_cons (pv 4) (pa_cons (pv 3) pa_nil))) pe_bl (by rfl))))) (pss_one (ps_ret pe_bl)) pss_nil)
      (pss_one (ps_ret (pe_and (pe_cmpR (op_eqD hr.units) (pe_x x_least_of hr (by decide) (by rfl) (pa_cons (pe_tup (pa_cons (pv 4) (pa_cons (pv 3) (pa_cons (pv 4) pa_nil)))) pa_nil)) (pv 3) (nomark _)) (pe_one (pe_cmpR (op_eqD hr.units) (pe_x x_greatest_of hr (by decide) (by rfl) (pa_cons (pe_tup (pa_cons (pv 3) (pa_cons (pv 4) (pa_cons (pv 3) pa_nil)))) pa_nil)) (pv 4) (nomark _)))))))))), ?_⟩
    refine ⟨_, _, rfl, rfl, ⟨by decide, by decide, by decide⟩, _, _, rfl, rfl, _, rfl, b, _, rfl, hb, by decide, by decide, fun d H1 d0 d1 hb1 k1 => ?_⟩
    refine ⟨_, _, rfl, rfl, _, rfl, b, _, rfl, hb1, by decide, by decide, fun e H2 e0 e1 hb2 k2 => ⟨_, _, rfl, ?_⟩⟩
    have e10 : (10 : Int) ^ (Int.toNat 6) = 1000000 := by decide
    dsimp only
    rw [e10]
    obtain ⟨n, en, n0, n1⟩ : ∃ n, (1000000 : Int) - 1 - d = n ∧ 999000 ≤ n ∧ n ≤ 999999 := ⟨_, rfl, by omega, by omega⟩
    rw [en]
    have e24 : (2 : Nat) ^ 24 = 16777216 := by decide
    refine ⟨_, rfl, _, _, rfl, rfl, _, rfl, two_ok, fun pn npn => ⟨_, rfl, _, rfl, _, _, rfl, rfl, two_ok, fun pf npf => ⟨_, _, rfl, ?_⟩⟩⟩
    have s1 := same_upd (o := .tup [.int (n - 1), .int n]) npn
    have s2 := same_at (o := .tup [.int n, .int (n + 1)]) s1 (s1.free npf)
    refine ⟨fun σ H' => ∃ pn pf qn qf, σ = [some (.ref b), some (.int n), some (.int e), some (.ref pn), some (.ref pf)] ∧ Keep b H H' ∧ BoxAt H' b ∧ H' pn = some (tpl qn) ∧ H' pf = some (tpl qf) ∧ SmQ qn ∧ SmQ qf ∧ qn.1 * qf.2 < qf.1 * qn.2, ?_, fun σ H' hM => ?_⟩
    · refine ⟨_, rfl, rfl, _, rfl, ite2 (fun _ => ?_) (fun _ => ?_)⟩
      · refine ⟨_, rfl, _, _, rfl, rfl, _, rfl, _, _, rfl, rfl, two_ok, fun p3 np3 => ⟨_, rfl, _, _, rfl, rfl, _, rfl, two_ok, fun p4 np4 => ⟨_, _, rfl, ?_⟩⟩⟩
        have s3 := same_at (o := .tup [.int (0 - n), .int (n + 1)]) s2 (s2.free np3)
        have s4 := same_at (o := .tup [.int (1 - n), .int n]) s3 (s3.free np4)
        refine ⟨p3, p4, (0 - n, n + 1), (1 - n, n), rfl, (k1.trans k2).trans (.of s4), hb2.same s4, by rw [upd_ne (ne_of_none upd_same np4)]; exact upd_same, upd_same, ⟨by rw [e24]; show (0 - n).natAbs < _; omega, by show 0 < n + 1; omega, by rw [e24]; show (n + 1).natAbs < _; omega⟩, ⟨by rw [e24]; show (1 - n).natAbs < _; omega, by show 0 < n; omega, by rw [e24]; show n.natAbs < _; omega⟩, ?_⟩
        show (0 - n) * n < (1 - n) * (n + 1)
        have a1 : (0 - n) * n = -(n * n) := by rw [Int.zero_sub, Int.neg_mul]
        have a2 : (1 - n) * (n + 1) = 1 - n * n := by rw [Int.sub_mul, Int.mul_add, Int.mul_add]; omega
        rw [a1, a2]; omega
      · refine ⟨pn, pf, (n - 1, n), (n, n + 1), rfl, (k1.trans k2).trans (.of s2), hb2.same s2, by rw [upd_ne (ne_of_none upd_same npf)]; exact upd_same, upd_same, ⟨by rw [e24]; show (n - 1).natAbs < _; omega, by show 0 < n; omega, by rw [e24]; show n.natAbs < _; omega⟩, ⟨by rw [e24]; show n.natAbs < _; omega, by show 0 < n + 1; omega, by rw [e24]; show (n + 1).natAbs < _; omega⟩, ?_⟩
        show (n - 1) * (n + 1) < n * n
        have a2 : (n - 1) * (n + 1) = n * n - 1 := by rw [Int.sub_mul, Int.mul_add, Int.mul_add]; omega
        rw [a2]; omega
    · obtain ⟨pn, pf, qn, qf, rfl, kp, hb3, hn, hf, sn, sf, lt⟩ := hM
      have nlt : ¬ leQ qf qn := Int.not_le.mpr lt
      refine ⟨_, rfl, _, rfl, _, _, qn, qf, rfl, ⟨pn, rfl, hn⟩, ⟨pf, rfl, hf⟩, sn, sf, _, _, rfl, rfl, _, rfl, iteNS (decide_eq_true lt) ?_⟩
      refine ⟨_, rfl, _, rfl, _, _, qf, qn, rfl, ⟨pf, rfl, hf⟩, ⟨pn, rfl, hn⟩, sf, sn, _, _, rfl, rfl, _, rfl, iteNS (decide_eq_false (Int.not_lt.mpr (Int.le_of_lt lt))) ?_⟩
      refine ⟨_, rfl, _, rfl, _, rfl, len3, fun t nt => ?_⟩
      have s3 := same_upd (o := .tup [.ref pf, .ref pn, .ref pf]) nt
      have smA : ∀ q ∈ [qf, qn, qf], SmQ q := fun q hq => by
        simp only [List.mem_cons, List.not_mem_nil, or_false] at hq
        rcases hq with rfl | rfl | rfl <;> assumption
      have smB : ∀ q ∈ [qn, qf, qn], SmQ q := fun q hq => by
        simp only [List.mem_cons, List.not_mem_nil, or_false] at hq
        rcases hq with rfl | rfl | rfl <;> assumption
      refine ⟨t, _, [qf, qn, qf], rfl, upd_same, .cons ⟨pf, rfl, s3 _ _ hf⟩ (.cons ⟨pn, rfl, s3 _ _ hn⟩ (.cons ⟨pf, rfl, s3 _ _ hf⟩ .nil)), smA, by simp, fun _ i v q hv hq all => ?_, fun e => by cases e⟩
      have hv1 : v = .ref pn := by
        match i, hv, hq with
        | 0, hv, hq =>
          cases hq
          exact absurd (all qn (by simp)) nlt
        | 1, hv, hq => exact (Option.some.inj hv).symm
        | 2, hv, hq =>
          cases hq
          exact absurd (all qn (by simp)) nlt
        | (i + 3), hv, hq => simp at hq
      subst hv1
      refine ⟨_, rfl, eqQ (q := qn) (s3 _ _ hn) (s3 _ _ hn) ⟨true, rfl, iteT ?_⟩⟩
      refine ⟨_, rfl, _, rfl, _, rfl, len3, fun t2 nt2 => ?_⟩
      have s4 := same_at (o := .tup [.ref pn, .ref pf, .ref pn]) s3 (s3.free nt2)
      refine ⟨t2, _, [qn, qf, qn], rfl, upd_same, .cons ⟨pn, rfl, s4 _ _ hn⟩ (.cons ⟨pf, rfl, s4 _ _ hf⟩ (.cons ⟨pn, rfl, s4 _ _ hn⟩ .nil)), smB, by simp, fun _ i v q hv hq all => ?_, fun e => by cases e⟩
      have hv2 : v = .ref pf := by
        match i, hv, hq with
        | 0, hv, hq =>
          cases hq
          exact absurd (all qf (by simp)) nlt
        | 1, hv, hq => exact (Option.some.inj hv).symm
        | 2, hv, hq =>
          cases hq
          exact absurd (all qf (by simp)) nlt
        | (i + 3), hv, hq => simp at hq
      subst hv2
      exact ⟨_, rfl, eqQ (q := qf) (s4 _ _ hf) (s4 _ _ hf) (k _ (hb3.same s4) (kp.trans (.of s4)))⟩
end
end M02

namespace M02
open PySem PySem.Spec PyProof.Rows L2 SX
open C8 (Cal pe_c pe_gc pss_cut)
/-- both sums of a list -/
theorem sums_ok : ∀ (l : List (Int × Q)) (s u : Q) (P : Nat), (∀ x ∈ l, 0 < x.2.2 ∧ x.1.natAbs < 2 ^ 24 ∧ x.2.1.natAbs < 2 ^ 24 ∧ x.2.2.natAbs < 2 ^ 24) → 0 < s.2 → 0 < u.2 → s.1 * u.2 = u.1 * s.2 → s.1.natAbs ≤ P → s.2.natAbs ≤ P → u.1.natAbs ≤ P → u.2.natAbs ≤ P →
    (wsum l s).1 * (lsum l u).2 = (lsum l u).1 * (wsum l s).2 ∧ 0 < (wsum l s).2 ∧ 0 < (lsum l u).2 ∧ (wsum l s).1.natAbs ≤ P * (2 ^ 80) ^ l.length ∧ (wsum l s).2.natAbs ≤ P * (2 ^ 80) ^ l.length ∧ (lsum l u).1.natAbs ≤ P * (2 ^ 80) ^ l.length ∧ (lsum l u).2.natAbs ≤ P * (2 ^ 80) ^ l.length
  | [], s, u, P, _, h1, h2, h3, h4, h5, h6, h7 => by
    simp only [List.length_nil, Nat.pow_zero, Nat.mul_one]
    exact ⟨h3, h1, h2, h4, h5, h6, h7⟩
  | (c, v) :: r, s, u, P, h, h1, h2, h3, h4, h5, h6, h7 => by
    obtain ⟨a1, a2, a3, a4⟩ := h (c, v) (List.mem_cons_self ..)
    have w := wst_bound c h1 a1 h4 h5 a2 a3 a4
    have q := lst_bound c h6 h7 a2 a3 a4
    have ih := sums_ok r (wst s c v) (lst u c v) (P * 2 ^ 80) (fun x hx => h x (List.mem_cons_of_mem _ hx)) (wst_pos c h1 a1) (lst_pos c h2 a1) (wst_lst c h1 a1 h3) w.1 w.2 q.1 q.2
    rw [List.length_cons, Nat.pow_succ']
    rw [Nat.mul_assoc] at ih
    exact ih
theorem frac_rel {W s : Q} (hW : 0 < W.2) (h : W.1 * s.2 = s.1 * W.2) : (frac W.1 W.2).1 * s.2 = s.1 * (frac W.1 W.2).2 := by
  have c := frac_cross W.1 W.2 (by omega)
  refine Int.eq_of_mul_eq_mul_right (show W.2 ≠ 0 by omega) ?_
  generalize frac W.1 W.2 = F at c ⊢
  calc F.1 * s.2 * W.2 = F.1 * W.2 * s.2 := by ac_rfl
    _ = W.1 * F.2 * s.2 := by rw [c]
    _ = W.1 * s.2 * F.2 := by ac_rfl
    _ = s.1 * W.2 * F.2 := by rw [h]
    _ = s.1 * F.2 * W.2 := by ac_rfl
theorem leQ_eq {p q : Q} (hp : Fr p) (hq : Fr q) (a : leQ p q) (b : leQ q p) : p = q := fr_uniq hp hq (Int.le_antisymm a b)
theorem layQ : ∀ qs : List Q, PyData.canLayAll0 (qs.map dQ) = true
  | [] => by simp [PyData.canLayAll0]
  | q :: r => by simp [PyData.canLayAll0, PyData.canLay0, dQ, layQ r]
theorem depQ : ∀ qs : List Q, PyData.depthAll (qs.map dQ) ≤ 1 + 1
  | [] => by simp [PyData.depthAll]
  | q :: r => by
    have h1 := depQ r
    have h2 : (dQ q).depth ≤ 1 + 1 := by simp [dQ, PyData.depth, PyData.depthAll]
    simp only [List.map_cons, PyData.depthAll]
    omega
theorem shpL (qs : List Q) : SeqAt.shaped (.list (qs.map dQ)) = true := by
  have h1 := depQ qs
  unfold SeqAt.shaped
  rw [Bool.and_eq_true]
  refine ⟨by simp only [PyData.canLay0]; exact layQ qs, decide_eq_true ?_⟩
  simp only [PyData.depth]; omega
theorem dpAllQ {K : PySem.W.Frag} {H : Hp} {vs : List V} {qs : List Q} (h : FrL H vs qs) : DpAll K H vs (qs.map dQ) := by
  induction h with
  | nil => exact .nil
  | cons a _ ih =>
    obtain ⟨p, rfl, e⟩ := a
    exact .cons (dpQ e) ih
theorem inQ {K : PySem.W.Frag} {H : Hp} {l p : Addr} {xs : List V} {qs : List Q} {q : Q} {Q' : VK} (hl : H l = some (.lst xs)) (fl : FrL H xs qs) (e : H p = some (tpl q)) (m : q ∈ qs) (k : Q' (.bl false) H) : rNotInD K (.ref p) (.ref l) H Q' := by
  refine ⟨dQ q, qs.map dQ, dpQ e, .lst (sq_lst hl) (dpAllQ fl), shpQ q, shpL qs, ?_⟩
  have : ((qs.map dQ).any fun z => PyData.eqv z (dQ q)) = true := List.any_eq_true.mpr ⟨dQ q, List.mem_map.mpr ⟨q, m, rfl⟩, eqvQ q⟩
  rw [this]; exact k
theorem u65 {k : Nat} {A : Around} (hr : Room k A) : A.units + 65 < cLine := by have := hr.un; omega
section
variable {P : Program} {w : World} {K : PySem.W.Frag} {mg : Str → Option Value} {base : Heap}
abbrev s_Lsome_right : Stmt := topS 34
abbrev n_Lsome_right : List Str := ["box", "some", "low", "high", "most", "amounts", "top", "bottom", "at", "told", "item"]
theorem sc_Lsome_right : FnScope n_Lsome_right ["box", "some"] (defScope s_Lsome_right) := ⟨rfl, rfl, rfl, by decide +kernel, rfl, by decide +kernel, by decide +kernel⟩
def spSome : Sp := fun vs H Q _ => ∃ (b l : Addr) (xs : List V) (qs : List M02.Q), vs = [.ref b, .ref l] ∧ BoxAt H b ∧ l ≠ b ∧ H l = some (.lst xs) ∧ FrL H xs qs ∧ (∀ q ∈ qs, SmQ q) ∧ (∀ q ∈ qs, Fr q) ∧ qs ≠ [] ∧ qs.length ≤ 6 ∧ ∀ H', BoxAt H' b → Keep b H H' → Q (.bl true) H'
theorem ok_Lsome_right {f CR : Addr} {fd : FuncData} (F : Fun K "_law_some_right" "_law_some_right" s_Lsome_right f fd) (T : Txt K mg) (c_Ltake : Cal P w K mg base 1 "_law_take" spTake []) (c_Lpick : Cal P w K mg base 2 "_law_pick" (spPick K) []) (c_Lequals : Cal P w K mg base 3 "_law_equals" spEquals [])
    (x_least_of : CalX P w K mg base 3 "least_of" (spBest CR leQ)) (x_greatest_of : CalX P w K mg base 3 "greatest_of" (spBest CR fun q r => leQ r q)) (k_least_of_some : CalK P w K mg base 3 "least_of" ["some"] id (spBest CR leQ)) (k_greatest_of_some : CalK P w K mg base 3 "greatest_of" ["some"] id (spBest CR fun q r => leQ r q))
    (c_weighed : Cal P w K mg base 4 "weighed" spWei []) (k_weighed_point_coefficients : CalK P w K mg base 4 "weighed" ["point", "coefficients"] sw spWei) : FnOk P w K mg base CX0 5 f fd ["box", "some"] spSome := by
  refine F.ok sc_Lsome_right (fun vs H Q E h => ?_) (fun cdv A outer s H vs Q E hr h => ?_)
  · obtain ⟨b, l, xs, qs, rfl, _⟩ := h
    rfl
  · obtain ⟨b, l, xs, qs, rfl, hb, nl, hl, fl, sm, gs, ne, l6, k⟩ := h
    have ln : qs.length ≤ 1000 := by omega
    refine ⟨_, (pss_cut (ps_asg (pe_tup (pa_cons (pe_x x_least_of hr (by decide) (by rfl) (pa_cons (pe_callTy call_tuple_of (by rfl) T.b_tuple (by decide +kernel) (pa_cons (pv 1) pa_nil)) pa_nil)) (pa_cons (pe_kw k_greatest_of_some hr (by decide) (by rfl) (pk_cons (pe_callTy call_tuple_of (by rfl) T.b_tuple (by decide +kernel) (pa_cons (pv 1) pa_nil)) pk_nil)) pa_nil))) (pg_tup rfl (pgs_cons (pg_name (i := 2) sc_Lsome_right.nd rfl (.inr rfl)) (pgs_cons (pg_name (i := 3) sc_Lsome_right.nd rfl (.inr rfl)) pgs_nil))))
      (pss_cut (ps_if (PW.pt (pw_or (pt_cmpR (op_notInD (u65 hr)) (pv 2) (pv 1) (by rfl)) (pw_or (pt_cmpR (op_notInD (u65 hr)) (pv 3) (pv 1) (by rfl)) (pw_or (pt_cmpR (op_neD hr.units) (pe_kw k_least_of_some hr (by decide) (by rfl) (pk_cons (pe_callTy call_tuple_of (by rfl) T.b_tuple (by decide +kernel) (pa_cons (pv 1) pa_nil)) pk_nil)) (pv 2) (nomark _)) (pw_or1 (pt_cmpR (op_neD hr.units) (pe_x x_greatest_of hr (by decide) (by rfl) (pa_cons (pe_callTy call_tuple_of (by rfl) T.b_tuple (by decide +kernel) (pa_cons (pv 1) pa_nil)) pa_nil)) (pv 3) (nomark _))))))) (pss_one (ps_ret pe_bl)) pss_nil)
      (pss_cut (ps_if (pt_not (pt_val (pe_callB (cr_all rfl) (by rfl) T.b_all (by decide +kernel) (pa_cons (pe_lc (own := [("item", 10)]) rfl sc_Lsome_right.nd (pi_list (pv 1)) (blkOk_by (N := n_Lsome_right) (sc := defScope s_Lsome_right) (by decide +kernel)) (fun _ _ _ _ _ => (pg_name (i := 10) sc_Lsome_right.nd rfl (.inl rfl))) (fun _ _ _ _ _ => pts_nil) (fun _ _ _ _ _ => (pe_and (pe_cmpR op_le (pe_op op_mul (pe_ix (r := rIxT K) ix_tup (pv 2) pe_int (fun _ _ => rfl)) (pe_ix (r := rIxT K) ix_tup (pv 10) pe_int (fun _ _ => rfl))) (pe_op op_mul (pe_ix (r := rIxT K) ix_tup (pv 10) pe_int (fun _ _ => rfl)) (pe_ix (r := rIxT K) ix_tup (pv 2) pe_int (fun _ _ => rfl))) (nomark _)) (pe_one (pe_cmpR op_le (pe_op op_mul (pe_ix (r := rIxT K) ix_tup (pv 10) pe_int (fun _ _ => rfl)) (pe_ix (r := rIxT K) ix_tup (pv 3) pe_int (fun _ _ => rfl))) (pe_op op_mul (pe_ix (r := rIxT K) ix_tup (pv 3) pe_int (fun _ _ => rfl)) (pe_ix (r := rIxT K) ix_tup (pv 10) pe_int (fun _ _ => rfl))) (nomark _)))))) pa_nil)))) (pss_one (ps_ret pe_bl)) pss_nil)
      (pss_cut (ps_set (i := 4) sc_Lsome_right.nd rfl (.inr rfl) (pe_c c_Lpick hr (by decide) (by rfl) (pa_cons (pv 0) (pa_cons (pe_lst (pa_cons pe_int (pa_cons pe_int (pa_cons pe_int pa_nil)))) pa_nil))))
      (pss_cut (ps_set (i := 5) sc_Lsome_right.nd rfl (.inl rfl) (pe_callTy call_tuple_of (by rfl) T.b_tuple (by decide +kernel) (pa_cons (pe_lc (own := [("item", 10)]) rfl sc_Lsome_right.nd (pi_list (pv 1)) (blkOk_by (N := n_Lsome_right) (sc := defScope s_Lsome_right) (by decide +kernel)) (fun _ _ _ _ _ => (pg_name (i := 10) sc_Lsome_right.nd rfl (.inl rfl))) (fun _ _ _ _ _ => pts_nil) (fun _ _ _ _ _ => (pe_op op_sub (pe_c c_Ltake hr (by decide) (by rfl) (pa_cons (pv 0) (pa_cons (pe_op op_add (pe_op op_mul pe_int (pv 4)) pe_int) pa_nil))) (pv 4)))) pa_nil)))
      (pss_cut (ps_asg (pe_tup (pa_cons pe_int (pa_cons pe_int pa_nil))) (pg_tup rfl (pgs_cons (pg_name (i := 6) sc_Lsome_right.nd rfl (.inl rfl)) (pgs_cons (pg_name (i := 7) sc_Lsome_right.nd rfl (.inl rfl)) pgs_nil))))
      (pss_cut (ps_for PassesOwn.never rfl (pi_range1 (by rfl) T.b_range (pa_cons (pe_callB call_len_seq (by rfl) T.b_len (by decide +kernel) (pa_cons (pv 1) pa_nil)) pa_nil)) (pg_name (i := 8) sc_Lsome_right.nd rfl (.inl rfl)) (pss_one (ps_par (i := 6) (j := 7) (by rfl) sc_Lsome_right.nd rfl rfl (by decide) rfl rfl (pa_cons (pe_op op_add (pe_op op_mul (pv 6) (pe_ix ix_tup (pe_ix ix_list (pv 1) (pv 8) (fun _ _ => rfl)) pe_int (fun _ _ => rfl))) (pe_op op_mul (pe_op op_mul (pe_ix ix_tup (pv 5) (pv 8) (fun _ _ => rfl)) (pe_ix ix_tup (pe_ix ix_list (pv 1) (pv 8) (fun _ _ => rfl)) pe_int (fun _ _ => rfl))) (pv 7))) (pa_cons (pe_op op_mul (pv 7) (pe_ix ix_tup (pe_ix ix_list (pv 1) (pv 8) (fun _ _ => rfl)) pe_int (fun _ _ => rfl))) pa_nil)) (by rfl))))
      (pss_cut (ps_set (i := 9) sc_Lsome_right.nd rfl (.inl rfl) (pe_c c_weighed hr (by decide) (by rfl) (pa_cons (pv 5) (pa_cons (pe_callTy call_tuple_of (by rfl) T.b_tuple (by decide +kernel) (pa_cons (pv 1) pa_nil)) pa_nil))))
      (pss_one (ps_ret (pe_and (pe_c c_Lequals hr (by decide) (by rfl) (pa_cons (pv 9) (pa_cons (pv 6) (pa_cons (pv 7) pa_nil)))) (pe_one (pe_cmpR (op_eqD hr.units) (pe_kw k_weighed_point_coefficients hr (by decide) (by rfl) (pk_cons (pe_callTy call_tuple_of (by rfl) T.b_tuple (by decide +kernel) (pa_cons (pv 1) pa_nil)) (pk_cons (pv 5) pk_nil))) (pv 9) (nomark _)))))))))))))), ?_⟩
    refine ⟨fun σ H' => ∃ (lo hi : V) (ql qh : M02.Q) (i j : Nat), σ = [some (.ref b), some (.ref l), some lo, some hi, none, none, none, none, none, none, none] ∧ Same H H' ∧ xs[i]? = some lo ∧ qs[i]? = some ql ∧ (∀ r ∈ qs, leQ ql r) ∧ xs[j]? = some hi ∧ qs[j]? = some qh ∧ ∀ r ∈ qs, leQ r qh, ?_, fun σ H' hM => ?_⟩
    · refine ⟨_, rfl, l, xs, rfl, .inl ⟨sq_lst hl, fun t nt => ?_⟩⟩
      have s1 := same_upd (o := .tup xs) nt
      refine ⟨t, xs, qs, rfl, upd_same, fl.same s1, sm, ln, fun _ i v q hv hq all => ?_, fun e => absurd e ne⟩
      refine ⟨_, rfl, l, xs, rfl, .inl ⟨sq_lst (s1 _ _ hl), fun t2 nt2 => ?_⟩⟩
      have s2 := same_at (o := .tup xs) s1 (s1.free nt2)
      refine ⟨t2, xs, qs, rfl, upd_same, fl.same s2, sm, ln, fun _ j u r hu hr2 all2 => ?_, fun e => absurd e ne⟩
      refine ⟨two_ok, fun D nD => ⟨D, _, rfl, sq_tup upd_same, rfl, _, _, rfl, _, _, rfl, rfl, ?_⟩⟩
      exact ⟨v, u, q, r, i, j, rfl, same_at s2 (s2.free nD), hv, hq, all, hu, hr2, all2⟩
    obtain ⟨lo, hi, ql, qh, i, j, rfl, z, hlo, hql, all, hhi, hqh, all2⟩ := hM
    obtain ⟨_, e1, pl, rfl, hpl⟩ := fl.at_ hlo
    rw [hql] at e1; cases e1
    obtain ⟨_, e1, ph, rfl, hph⟩ := fl.at_ hhi
    rw [hqh] at e1; cases e1
    have ml : ql ∈ qs := List.mem_of_getElem? hql
    have mh : qh ∈ qs := List.mem_of_getElem? hqh
    refine ⟨fun σ H' => σ = [some (.ref b), some (.ref l), some (.ref pl), some (.ref ph), none, none, none, none, none, none, none] ∧ Same H H', ?_, fun σ H' hM => ?_⟩
    · refine ⟨_, rfl, _, rfl, inQ (z _ _ hl) (fl.same z) (z _ _ hpl) ml ⟨_, rfl, iteF ?_⟩⟩
      refine ⟨_, rfl, _, rfl, inQ (z _ _ hl) (fl.same z) (z _ _ hph) mh ⟨_, rfl, iteF ?_⟩⟩
      refine ⟨_, rfl, l, xs, rfl, .inl ⟨sq_lst (z _ _ hl), fun t nt => ?_⟩⟩
      have s1 := same_at (o := .tup xs) z (z.free nt)
      refine ⟨t, xs, qs, rfl, upd_same, fl.same s1, sm, ln, fun _ i v q hv hq a1 => ?_, fun e => absurd e ne⟩
      obtain ⟨_, e1, pv', rfl, hpv⟩ := fl.at_ hv
      rw [hq] at e1; cases e1
      have eq1 : q = ql := leQ_eq (gs _ (List.mem_of_getElem? hq)) (gs _ ml) (a1 _ ml) (all _ (List.mem_of_getElem? hq))
      refine ⟨_, rfl, neQ (q := ql) (by rw [← eq1]; exact s1 _ _ hpv) (s1 _ _ hpl) ⟨_, rfl, iteF ?_⟩⟩
      refine ⟨_, rfl, l, xs, rfl, .inl ⟨sq_lst (s1 _ _ hl), fun t2 nt2 => ?_⟩⟩
      have s2 := same_at (o := .tup xs) s1 (s1.free nt2)
      refine ⟨t2, xs, qs, rfl, upd_same, fl.same s2, sm, ln, fun _ j u r hu hr2 a2 => ?_, fun e => absurd e ne⟩
      obtain ⟨_, e1, pu, rfl, hpu⟩ := fl.at_ hu
      rw [hr2] at e1; cases e1
      have eq2 : r = qh := leQ_eq (gs _ (List.mem_of_getElem? hr2)) (gs _ mh) (all2 _ (List.mem_of_getElem? hr2)) (a2 _ mh)
      exact ⟨_, rfl, neQ (q := qh) (by rw [← eq2]; exact s2 _ _ hpu) (s2 _ _ hph) ⟨_, rfl, iteF ⟨rfl, s2⟩⟩⟩
    obtain ⟨rfl, z⟩ := hM
    refine ⟨fun σ H' => σ = [some (.ref b), some (.ref l), some (.ref pl), some (.ref ph), none, none, none, none, none, none, none] ∧ Same H H', ?_, fun σ H' hM => ?_⟩
    · refine ⟨_, rfl, l, rfl, ⟨_, sq_lst (z _ _ hl)⟩, fun D nD => ?_⟩
      refine lc_list (K := K) (a := l) (xs := xs) (fun i H2 => H2 D = some (.lst ((List.replicate i true).map V.bl)) ∧ Same H H2) ⟨upd_same, same_at z (z.free nD)⟩ (fun i H2 _ h => sq_lst (h.2 _ _ hl)) ?_ ?_
      · rintro i x H2 hi ⟨hD, s2⟩
        obtain ⟨q, hq, px, rfl, hpx⟩ := fl.at_ hi
        have mq := List.mem_of_getElem? hq
        have li : i < xs.length := (List.getElem?_eq_some_iff.mp hi).1
        have lx : xs.length = qs.length := fl.len
        refine ⟨rfl, _, rfl, pl, _, 0, .int ql.1, rfl, rfl, sq_tup (s2 _ _ hpl), rfl, _, rfl, px, _, 1, .int q.2, rfl, rfl, sq_tup (s2 _ _ hpx), rfl, _, _, rfl, rfl, .inl (m40 (sm _ ml).top), ?_⟩
        refine ⟨_, rfl, px, _, 0, .int q.1, rfl, rfl, sq_tup (s2 _ _ hpx), rfl, _, rfl, pl, _, 1, .int ql.2, rfl, rfl, sq_tup (s2 _ _ hpl), rfl, _, _, rfl, rfl, .inl (m40 (sm _ mq).top), _, _, rfl, rfl, _, rfl, ite2 (fun _ => ?_) (fun h => absurd (decide_eq_true (show ql.1 * q.2 ≤ q.1 * ql.2 from all q mq)) h)⟩
        refine ⟨_, rfl, px, _, 0, .int q.1, rfl, rfl, sq_tup (s2 _ _ hpx), rfl, _, rfl, ph, _, 1, .int qh.2, rfl, rfl, sq_tup (s2 _ _ hph), rfl, _, _, rfl, rfl, .inl (m40 (sm _ mq).top), ?_⟩
        refine ⟨_, rfl, ph, _, 0, .int qh.1, rfl, rfl, sq_tup (s2 _ _ hph), rfl, _, rfl, px, _, 1, .int q.2, rfl, rfl, sq_tup (s2 _ _ hpx), rfl, _, _, rfl, rfl, .inl (m40 (sm _ mh).top), _, _, rfl, rfl, _, hD, (by rw [List.length_map, List.length_replicate]; exact small1000 (by omega)), ?_, same_at s2 (z.free nD)⟩
        rw [upd_same]
        show some (HO.lst (_ ++ [V.bl (decide (q.1 * qh.2 ≤ qh.1 * q.2))])) = _
        rw [decide_eq_true (show q.1 * qh.2 ≤ qh.1 * q.2 from all2 q mq), List.replicate_succ', List.map_append]; rfl
      · rintro H2 ⟨hD, s2⟩
        refine ⟨D, List.replicate xs.length true, rfl, sq_lst hD, _, rfl, ?_⟩
        have ea : (List.replicate xs.length true).all id = true := by simp
        rw [ea]
        exact iteF ⟨rfl, s2⟩
    obtain ⟨rfl, z⟩ := hM
    refine ⟨fun σ H' => ∃ m : Int, σ = [some (.ref b), some (.ref l), some (.ref pl), some (.ref ph), some (.int m), none, none, none, none, none, none] ∧ Keep b H H' ∧ BoxAt H' b ∧ 3 ≤ m ∧ m ≤ 1000000, ?_, fun σ H' hM => ?_⟩
    · refine ⟨_, rfl, len3, fun l1 nl1 => ?_⟩
      have hb0 := hb.same z
      refine ⟨b, l1, _, rfl, hb0.same (same_upd nl1), upd_same, hb0.ne_of nl1, by simp, by simp, fun i v H2 hi hb2 kp => ?_⟩
      obtain ⟨m, rfl, m0, m1⟩ : ∃ m : Int, v = .int m ∧ 3 ≤ m ∧ m ≤ 1000000 := by
        have := List.mem_of_getElem? hi
        simp only [List.mem_cons, List.not_mem_nil, or_false] at this
        rcases this with rfl | rfl | rfl
        · exact ⟨_, rfl, by decide, by decide⟩
        · exact ⟨_, rfl, by decide, by decide⟩
        · exact ⟨_, rfl, by decide, by decide⟩
      exact ⟨m, rfl, ((Keep.of z).trans (.of (same_upd nl1))).trans kp, hb2, m0, m1⟩
    obtain ⟨m, rfl, k4, hb4, m0, m1⟩ := hM
    have e24 : (2 : Nat) ^ 24 = 16777216 := by decide
    have hl4 := k4 _ _ hl nl
    refine ⟨fun σ H2 => ∃ (cs : List Int) (ap : Addr), σ = [some (.ref b), some (.ref l), some (.ref pl), some (.ref ph), some (.int m), some (.ref ap), none, none, none, none, none] ∧ H2 ap = some (.tup (cs.map V.int)) ∧ cs.length = qs.length ∧ (∀ c ∈ cs, c.natAbs < 2 ^ 24) ∧ Keep b H H2 ∧ BoxAt H2 b, ?_, fun σ H2 hM => ?_⟩
    · refine ⟨_, rfl, l, rfl, ⟨_, sq_lst hl4⟩, fun D nD => ?_⟩
      have nDb : D ≠ b := hb4.ne_of nD
      refine lc_list (K := K) (a := l) (xs := xs) (fun i H2 => ∃ cs : List Int, H2 D = some (.lst (cs.map V.int)) ∧ cs.length = i ∧ (∀ c ∈ cs, c.natAbs < 2 ^ 24) ∧ BoxAt H2 b ∧ Keep b H' H2)
        ⟨[], upd_same, rfl, fun c hc => by simp at hc, hb4.same (same_upd nD), .of (same_upd nD)⟩ (fun i H2 _ h => ?_) ?_ ?_
      · obtain ⟨cs, _, _, _, _, kp⟩ := h
        exact sq_lst (kp _ _ hl4 nl)
      · rintro i x H2 hi ⟨cs, hD, lc, bc, hb2, kp⟩
        have li : i < xs.length := (List.getElem?_eq_some_iff.mp hi).1
        have lx : xs.length = qs.length := fl.len
        refine ⟨rfl, _, rfl, _, rfl, _, _, rfl, rfl, .inl ⟨by decide, by decide⟩, _, _, rfl, rfl, b, _, rfl, hb2, by omega, by omega, fun d H3 d0 d1 hb3 k3 => ?_⟩
        have hD3 := k3 _ _ hD nDb
        refine ⟨_, rfl, _, _, rfl, rfl, _, hD3, (by rw [List.length_map]; exact small1000 (by omega)), cs ++ [d - m], ?_, by rw [List.length_append, lc]; rfl, fun c hc => ?_, ?_, ?_⟩
        · rw [upd_same, List.map_append]; rfl
        · rcases List.mem_append.mp hc with hc | hc
          · exact bc c hc
          · rw [List.mem_singleton.mp hc, e24]; omega
        · obtain ⟨g, y, n, e⟩ := hb3
          exact ⟨g, y, n, by rw [upd_ne nDb.symm]; exact e⟩
        · intro a o e na
          have hh := (kp.trans k3) a o e na
          have aD : a ≠ D := ne_of_none e nD
          rw [upd_ne aD]; exact hh
      · rintro H2 ⟨cs, hD, lc, bc, hb2, kp⟩
        refine ⟨D, _, rfl, .inl ⟨sq_lst hD, fun t nt => ?_⟩⟩
        exact ⟨cs, t, rfl, upd_same, by rw [lc]; exact fl.len, bc, (k4.trans kp).trans (.of (same_upd nt)), hb2.same (same_upd nt)⟩
    obtain ⟨cs, ap, rfl, ha, lc, bc, k5, hb5⟩ := hM
    have hl5 := k5 _ _ hl nl
    have fl5 := fl.keep hb k5
    refine ⟨fun σ H3 => σ = [some (.ref b), some (.ref l), some (.ref pl), some (.ref ph), some (.int m), some (.ref ap), some (.int 0), some (.int 1), none, none, none] ∧ Same H2 H3, ?_, fun σ H3 hM => ?_⟩
    · exact ⟨two_ok, fun D nD => ⟨D, _, rfl, sq_tup upd_same, rfl, _, _, rfl, _, _, rfl, rfl, rfl, same_upd nD⟩⟩
    obtain ⟨rfl, z6⟩ := hM
    have hl6 := z6 _ _ hl5
    have ha6 := z6 _ _ ha
    have lx : xs.length = qs.length := fl.len
    have lz : (cs.zip qs).length = qs.length := by rw [List.length_zip, lc, Nat.min_self]
    have pr : ∀ x ∈ cs.zip qs, 0 < x.2.2 ∧ x.1.natAbs < 2 ^ 24 ∧ x.2.1.natAbs < 2 ^ 24 ∧ x.2.2.natAbs < 2 ^ 24 := fun x hx => by
      obtain ⟨h1, h2⟩ := List.of_mem_zip (a := x.1) (b := x.2) hx
      have := sm _ h2
      exact ⟨this.pos, bc _ h1, this.top, this.bot⟩
    have SO := sums_ok (cs.zip qs) (0, 1) (0, 1) 1 pr (by decide) (by decide) rfl (by decide) (by decide) (by decide) (by decide)
    have P6 : ∀ i, i ≤ 6 → 1 * (2 ^ 80) ^ i < 2 ^ 8000 := fun i hi => by
      rw [Nat.one_mul, ← Nat.pow_mul]; exact Nat.pow_lt_pow_right (by decide) (by omega)
    refine ⟨fun σ H4 => ∃ y8, σ = [some (.ref b), some (.ref l), some (.ref pl), some (.ref ph), some (.int m), some (.ref ap), some (.int (lsum (cs.zip qs) (0, 1)).1), some (.int (lsum (cs.zip qs) (0, 1)).2), y8, none, none] ∧ H4 = H3, ?_, fun σ H4 hM => ?_⟩
    · refine ⟨_, rfl, l, _, rfl, .inl (sq_lst hl6), _, rfl, by omega, by omega, for_range (lo := 0) (n := ((xs.length : Int)).toNat) (fun i σ H4 => ∃ (s : M02.Q) (y8 : Option V), σ = [some (.ref b), some (.ref l), some (.ref pl), some (.ref ph), some (.int m), some (.ref ap), some (.int s.1), some (.int s.2), y8, none, none] ∧ H4 = H3 ∧ s = lsum ((cs.zip qs).take i) (0, 1))
        ⟨(0, 1), none, rfl, rfl, rfl⟩ (fun i σ H4 hi h => ?_) (fun σ H4 h => ?_)⟩
      · obtain ⟨s, y8, rfl, rfl, es⟩ := h
        have hi : i < xs.length := by omega
        have hiq : i < qs.length := by omega
        have hic : i < cs.length := by omega
        have hq : qs[i]? = some qs[i] := List.getElem?_eq_getElem hiq
        have hc : cs[i]? = some cs[i] := List.getElem?_eq_getElem hic
        have hx : xs[i]? = some xs[i] := List.getElem?_eq_getElem hi
        obtain ⟨q, e1, pv, ev, hv⟩ := (fl5.same z6).at_ hx
        rw [hq] at e1
        have sq := sm q (by rw [← Option.some.inj e1]; exact List.getElem_mem hiq)
        have bcc := bc _ (List.getElem_mem hic)
        rw [ev] at hx
        have ix1 : atI xs (0 + (i : Int)) = some (.ref pv) := by rw [Int.zero_add]; exact atI_nat hx
        have ix2 : atI (cs.map V.int) (0 + (i : Int)) = some (.int cs[i]) := by rw [Int.zero_add]; exact atI_nat (by rw [List.getElem?_map, hc]; rfl)
        have cv : -(2 : Int) ^ 64 < cs[i] * q.1 ∧ cs[i] * q.1 < 2 ^ 64 := by
          have := wide_lt bcc sq.top
          have e1 : (2 : Nat) ^ (24 + 24) = 281474976710656 := by decide
          have e2 : (2 : Int) ^ 64 = 18446744073709551616 := by decide
          rw [e1] at this; rw [e2]; omega
        refine ⟨_, rfl, _, rfl, _, rfl, l, _, _, _, rfl, rfl, sq_lst hl6, ix1, pv, _, 1, .int q.2, rfl, rfl, sq_tup hv, rfl, _, _, rfl, rfl, .inr (m40 sq.bot), ?_⟩
        refine ⟨_, rfl, _, rfl, ap, _, _, _, rfl, rfl, sq_tup ha6, ix2, _, rfl, _, rfl, l, _, _, _, rfl, rfl, sq_lst hl6, ix1, pv, _, 0, .int q.1, rfl, rfl, sq_tup hv, rfl, _, _, rfl, rfl, .inl (m40 bcc), _, rfl, _, _, rfl, rfl, .inl cv, _, _, rfl, rfl, ?_⟩
        refine ⟨_, rfl, _, rfl, _, rfl, l, _, _, _, rfl, rfl, sq_lst hl6, ix1, pv, _, 1, .int q.2, rfl, rfl, sq_tup hv, rfl, _, _, rfl, rfl, .inr (m40 sq.bot), _, _, rfl, ?_⟩
        refine ⟨lst s cs[i] q, _, rfl, rfl, ?_⟩
        rw [take_at (zip_at hc (hq.trans e1)), lsum_snoc, ← es]
      · obtain ⟨s, y8, rfl, rfl, es⟩ := h
        rw [List.take_of_length_le (by omega)] at es
        subst es
        exact ⟨y8, rfl, rfl⟩
    obtain ⟨y8, rfl, rfl⟩ := hM
    have W2 := SO.2.1
    have nW : (wsum (cs.zip qs) (0, 1)).2 ≠ 0 := by omega
    have bW1 := Nat.lt_of_le_of_lt SO.2.2.2.1 (P6 _ (by omega))
    have bW2 := Nat.lt_of_le_of_lt SO.2.2.2.2.1 (P6 _ (by omega))
    have bL1 := Nat.lt_of_le_of_lt SO.2.2.2.2.2.1 (P6 _ (by omega))
    have bL2 := Nat.lt_of_le_of_lt SO.2.2.2.2.2.2 (P6 _ (by omega))
    refine ⟨fun σ H5 => ∃ tp, σ = [some (.ref b), some (.ref l), some (.ref pl), some (.ref ph), some (.int m), some (.ref ap), some (.int (lsum (cs.zip qs) (0, 1)).1), some (.int (lsum (cs.zip qs) (0, 1)).2), y8, some (.ref tp), none] ∧ Same H4 H5 ∧ H5 tp = some (tpl (frac (wsum (cs.zip qs) (0, 1)).1 (wsum (cs.zip qs) (0, 1)).2)), ?_, fun σ H5 hM => ?_⟩
    · refine ⟨_, rfl, _, rfl, l, xs, rfl, .inl ⟨sq_lst hl6, fun t nt => ?_⟩⟩
      have s1 := same_upd (o := .tup xs) nt
      exact ⟨ap, t, cs, xs, qs, rfl, s1 _ _ ha6, upd_same, (fl5.same z6).same s1, sm, bc, lc.symm, l6, fun H6 p s2 np ep => ⟨p, rfl, s1.trans s2, ep⟩⟩
    · obtain ⟨tp, rfl, z8, ht⟩ := hM
      refine ⟨_, rfl, _, rfl, _, rfl, tp, _, _, _, rfl, ht, frac_fr _ _ nW, fr_b1 nW bW1, fr_b2 nW bW2, bL1, bL2, frac_rel W2 SO.1, fun H6 s6 => ⟨true, rfl, iteT ?_⟩⟩
      have z9 := z8.trans s6
      refine ⟨_, rfl, l, xs, rfl, .inl ⟨sq_lst (z9 _ _ hl6), fun t nt => ?_⟩⟩
      have s1 := same_at (o := .tup xs) z9 (z9.free nt)
      refine ⟨_, rfl, ap, t, cs, xs, qs, rfl, s1 _ _ ha6, upd_same, (fl5.same z6).same s1, sm, bc, lc.symm, l6, fun H7 p s7 np ep => ?_⟩
      have s8 := (s6.trans (same_upd (o := .tup xs) nt)).trans s7
      exact ⟨_, rfl, eqQ ep (s8 _ _ ht) (k _ (((hb5.same z6).same s1).same s7) (((k5.trans (.of z6)).trans (.of s1)).trans (.of s7)))⟩
end
end M02

namespace M02
open PySem PySem.Spec PyProof.Rows L2 SX
open C8 (Cal pe_c pe_gc pss_cut)
/-! ### odd values -/
theorem exo_lst {e C : Addr} {d : Option Addr} {xs : List V} : exo e C d ≠ .lst xs := fun z => by
  have z' : HO.ext _ = HO.lst xs := z
  cases z'
theorem exd_lst {e : Addr} {fs : List (Str × V)} {xs : List V} : exd e fs ≠ .lst xs := fun z => by
  have z' : HO.ext _ = HO.lst xs := z
  cases z'
theorem Keep.at_ne {b a : Addr} {H H' : Hp} {o : HO} (k : Keep b H H') (x : BoxAt H b) (e : H a = some o) (n : ∀ xs, o ≠ .lst xs) : H' a = some o := by
  obtain ⟨g, m, y, eb⟩ := x
  exact k _ _ e (M02.ne_of e eb (n _))
theorem TyOf.keep {K : PySem.W.Frag} {b : Addr} {H H' : Hp} {x : V} {t : Value} (h : TyOf K H x t) (hb : BoxAt H b) (hb' : BoxAt H' b) (s : Keep b H H') : TyOf K H' x t := by
  cases h with
  | non => exact .non
  | bl b => exact .bl b
  | int i => exact .int i
  | str y => exact .str y
  | flt y => exact .flt y
  | @lst a xs e =>
    by_cases c : a = b
    · subst c
      obtain ⟨g, m, n, e2⟩ := hb'
      exact .lst e2
    · exact .lst (s _ _ e c)
  | frz e => exact .frz (s.at_ne hb e (fun _ z => by cases z))
  | tup e => exact .tup (s.at_ne hb e (fun _ z => by cases z))
  | dK e => exact .dK (s.at_ne hb e (fun _ z => by cases z))
  | dT e => exact .dT (s.at_ne hb e (fun _ z => by cases z))
  | ins e cl ha hn htk hm => exact .ins (s.at_ne hb e (fun _ z => by cases z)) cl ha hn htk hm
theorem TyX.keep {K : PySem.W.Frag} {b : Addr} {H H' : Hp} {x : V} {t : Value} (h : TyX K H x t) (hb : BoxAt H b) (hb' : BoxAt H' b) (s : Keep b H H') : TyX K H' x t := by
  cases h with
  | base h => exact .base (TyOf.keep h hb hb' s)
  | byt b => exact .byt b
  | set e => exact .set (s.at_ne hb e (fun _ z => by cases z))
  | kList e c => exact .kList e c
  | kTuple e c => exact .kTuple e c
  | kDict e c => exact .kDict e c
  | fTuple e => exact .fTuple (s.at_ne hb e (fun _ z => by cases z))
  | fDict e => exact .fDict (s.at_ne hb e (fun _ z => by cases z))
theorem TyE.keep {K : PySem.W.Frag} {b : Addr} {H H' : Hp} {x : V} {t : Value} (h : TyE K H x t) (hb : BoxAt H b) (hb' : BoxAt H' b) (s : Keep b H H') : TyE K H' x t := by
  cases h with
  | base h => exact .base (TyX.keep h hb hb' s)
  | exc T e f => exact .exc T (s.at_ne hb e (fun _ => exo_lst)) (s.at_ne hb f (fun _ => exd_lst))
theorem WhV.keep {K : PySem.W.Frag} {b : Addr} {H H' : Hp} {x : V} {c : Bool} (h : WhV K H x c) (hb : BoxAt H b) (hb' : BoxAt H' b) (s : Keep b H H') : WhV K H' x c := by
  obtain ⟨t, b1, b2, ty, r⟩ := h
  exact ⟨t, b1, b2, ty.keep hb hb' s, r⟩
theorem OdV.keep {K : PySem.W.Frag} {b : Addr} {H H' : Hp} {x : V} {c : Bool} (h : OdV K H x c) (hb : BoxAt H b) (hb' : BoxAt H' b) (s : Keep b H H') : OdV K H' x c := by
  cases h with
  | no ty k => exact .no (ty.keep hb hb' s) k
  | len e n l => exact .len (s.at_ne hb e (fun _ z => by cases z)) n l
  | parts e w1 w2 n => exact .parts (s.at_ne hb e (fun _ z => by cases z)) (w1.keep hb hb' s) (w2.keep hb hb' s) n
  | nums e s1 s2 => exact .nums (s.at_ne hb e (fun _ z => by unfold tpl at z; cases z)) s1 s2
def Odd (K : PySem.W.Frag) (H : Hp) (v : V) : Prop := ∃ c, OdV K H v c
theorem Odd.same {K : PySem.W.Frag} {H H' : Hp} {v : V} (h : Odd K H v) (s : Same H H') : Odd K H' v := by
  obtain ⟨c, o⟩ := h
  exact ⟨c, o.same s⟩
theorem odd_nums {K : PySem.W.Frag} {H : Hp} {p : Addr} {x y : Int} (e : H p = some (.tup [.int x, .int y])) (hx : x.natAbs < 2 ^ 60) (hy : y.natAbs < 2 ^ 60) : Odd K H (.ref p) := ⟨_, .nums (q := (x, y)) e (big hx) (big hy)⟩
theorem odd_parts {K : PySem.W.Frag} {H : Hp} {p : Addr} {x y : V} {b1 b2 : Bool} (e : H p = some (.tup [x, y])) (w1 : WhV K H x b1) (w2 : WhV K H y b2) (n : (b1 && b2) = false) : Odd K H (.ref p) := ⟨_, .parts e w1 w2 n⟩
theorem WhV.bl {K : PySem.W.Frag} {H : Hp} (b : Bool) : WhV K H (.bl b) false := ⟨.type "bool", true, true, .base (.base (.bl b)), by rfl, by rfl, rfl⟩
theorem WhV.non {K : PySem.W.Frag} {H : Hp} : WhV K H .non false := ⟨.type "NoneType", false, false, .base (.base .non), by rfl, by rfl, rfl⟩
theorem WhV.str {K : PySem.W.Frag} {H : Hp} (s : Str) : WhV K H (.str s) false := ⟨.type "str", false, false, .base (.base (.str s)), by rfl, by rfl, rfl⟩
theorem WhV.tup {K : PySem.W.Frag} {H : Hp} {p : Addr} {xs : List V} (e : H p = some (.tup xs)) : WhV K H (.ref p) false := ⟨.type "tuple", false, false, .base (.base (.tup e)), by rfl, by rfl, rfl⟩
/-- what is told of the error's class by isinstance -/
structure OddT (K : PySem.W.Frag) (C : Addr) : Prop where
  is : IsE K C
  kT : PySem.W.kitOne K (.ref C) (.type "tuple") = some false
  kI : PySem.W.kitOne K (.ref C) (.type "int") = some false
  kB : PySem.W.kitOne K (.ref C) (.type "bool") = some false
theorem WhV.exc {K : PySem.W.Frag} {H : Hp} {a C d : Addr} {fs : List (Str × V)} (T : OddT K C) (e : H a = some (exo a C (some d))) (f : H d = some (exd d fs)) : WhV K H (.ref a) false := ⟨.ref C, false, false, .exc T.is e f, T.kI, T.kB, rfl⟩
theorem len8 {a b c d e f g h : V} : [a, b, c, d, e, f, g, h].length ≤ sizeLine := by
  rw [sizeLine_eq]
  exact (by decide : 8 ≤ 16777216)
theorem len13 {a b c d e f g h i j k l m : V} : [a, b, c, d, e, f, g, h, i, j, k, l, m].length ≤ sizeLine := by
  rw [sizeLine_eq]
  exact (by decide : 13 ≤ 16777216)
section
variable {P : Program} {w : World} {K : PySem.W.Frag} {mg : Str → Option Value} {base : Heap}
abbrev s_Lodd : Stmt := topS 36
abbrev n_Lodd : List Str := ["box", "one", "top", "bottom", "some"]
theorem sc_Lodd : FnScope n_Lodd ["box", "one"] (defScope s_Lodd) := ⟨rfl, rfl, rfl, by decide +kernel, rfl, by decide +kernel, by decide +kernel⟩
def spOdd (K : PySem.W.Frag) : Sp := fun vs H Q _ => ∃ (b : Addr) (v : V) (q : M02.Q), vs = [.ref b, v] ∧ BoxAt H b ∧ FrV H v q ∧ SmQ q ∧ ∀ u c H', OdV K H' u c → BoxAt H' b → Keep b H H' → Q u H'
theorem ok_Lodd {f CR : Addr} {fd : FuncData} (F : Fun K "_law_odd" "_law_odd" s_Lodd f fd) (O : OddT K CR) (c_Lpick : Cal P w K mg base 2 "_law_pick" (spPick K) []) (e_Refused : ExK P w K mg base "Refused" CR) : FnOk P w K mg base CX0 4 f fd ["box", "one"] (spOdd K) := by
  refine F.ok sc_Lodd (fun vs H Q E h => ?_) (fun cdv A outer s H vs Q E hr h => ?_)
  · obtain ⟨b, v, q, rfl, _⟩ := h
    rfl
  · obtain ⟨b, v, q, rfl, hb, ⟨p, rfl, hp⟩, sm, k⟩ := h
    refine ⟨_, (pss_cons (ps_asg (pv 1) (pg_tup rfl (pgs_cons (pg_name (i := 2) sc_Lodd.nd rfl (.inl rfl)) (pgs_cons (pg_name (i := 3) sc_Lodd.nd rfl (.inl rfl)) pgs_nil))))
      (pss_cut (ps_set (i := 4) sc_Lodd.nd rfl (.inl rfl) (pe_lst (pa_cons (pe_tup (pa_cons (pv 2) (pa_cons (pe_op op_sub pe_int (pv 3)) pa_nil))) (pa_cons (pe_tup (pa_cons (pv 2) (pa_cons pe_int pa_nil))) (pa_cons (pe_tup (pa_cons (pe_op op_mul pe_int (pv 2)) (pa_cons (pe_op op_mul pe_int (pv 3)) pa_nil))) (pa_cons (pe_tup (pa_cons pe_int (pa_cons (pv 3) pa_nil))) (pa_cons (pe_tup (pa_cons pe_bl (pa_cons pe_int pa_nil))) (pa_cons (pe_tup (pa_cons pe_int (pa_cons pe_bl pa_nil))) (pa_cons (pe_lst (pa_cons (pv 2) (pa_cons (pv 3) pa_nil))) (pa_cons (pe_tup (pa_cons (pv 2) pa_nil)) pa_nil))))))))))
      (pss_one (ps_ret (pe_c c_Lpick hr (by decide) (by rfl) (pa_cons (pv 0) (pa_cons (pe_op op_cat (pv 4) (pe_lst (pa_cons pe_non (pa_cons pe_int (pa_cons pe_int (pa_cons pe_str (pa_cons (pe_tup (pa_cons (pv 2) (pa_cons (pv 3) (pa_cons pe_int pa_nil)))) (pa_cons (pe_tup (pa_cons pe_non (pa_cons pe_int pa_nil))) (pa_cons (pe_tup (pa_cons pe_str (pa_cons pe_int pa_nil))) (pa_cons pe_dnewK (pa_cons (pe_tup (pa_cons (pv 3) (pa_cons (pv 2) pa_nil))) (pa_cons (pe_tup (pa_cons (pe_tup (pa_cons pe_int (pa_cons pe_int pa_nil))) (pa_cons pe_int pa_nil))) (pa_cons (pe_tup (pa_cons pe_int (pa_cons pe_int pa_nil))) (pa_cons (pe_newE e_Refused hr (by decide) (by rfl) (pv 1)) (pa_cons (pe_tup (pa_cons (pe_newE e_Refused hr (by decide) (by rfl) pe_int) (pa_cons pe_int pa_nil))) pa_nil))))))))))))))) pa_nil))))))), ?_⟩
    refine ⟨_, rfl, p, _, rfl, sq_tup hp, rfl, _, _, rfl, _, _, rfl, rfl, ?_⟩
    have e60 : (2 : Nat) ^ 60 = 1152921504606846976 := by decide
    have e24 : (2 : Nat) ^ 24 = 16777216 := by decide
    have bt := sm.top
    have bb := sm.bot
    rw [e24] at bt bb
    refine ⟨fun σ H' => ∃ l xs, σ = [some (.ref b), some (.ref p), some (.int q.1), some (.int q.2), some (.ref l)] ∧ Same H H' ∧ H' l = some (.lst xs) ∧ xs.length = 8 ∧ ∀ v ∈ xs, Odd K H' v, ?_, fun σ H' hM => ?_⟩
    · refine ⟨_, rfl, _, rfl, _, _, rfl, rfl, two_ok, fun a1 n1 => ?_⟩
      refine ⟨_, rfl, two_ok, fun a2 n2 => ?_⟩
      refine ⟨_, rfl, _, _, rfl, rfl, .inl ⟨by decide, by decide⟩, _, rfl, _, _, rfl, rfl, .inl ⟨by decide, by decide⟩, two_ok, fun a3 n3 => ?_⟩
      refine ⟨_, rfl, two_ok, fun a4 n4 => ⟨two_ok, fun a5 n5 => ⟨two_ok, fun a6 n6 => ?_⟩⟩⟩
      refine ⟨_, rfl, _, rfl, two_ok, fun a7 n7 => ⟨_, rfl, len1, fun a8 n8 => ⟨len8, fun l nl => ?_⟩⟩⟩
      have s1 := same_upd (o := .tup [.int q.1, .int (0 - q.2)]) n1
      have s2 := same_upd (o := .tup [.int q.1, .int 0]) n2
      have s3 := same_upd (o := .tup [.int (2 * q.1), .int (2 * q.2)]) n3
      have s4 := same_upd (o := .tup [.int 0, .int q.2]) n4
      have s5 := same_upd (o := .tup [.bl true, .int 1]) n5
      have s6 := same_upd (o := .tup [.int 1, .bl true]) n6
      have s7 := same_upd (o := .lst [.int q.1, .int q.2]) n7
      have s8 := same_upd (o := .tup [.int q.1]) n8
      have s9 := same_upd (o := .lst [.ref a1, .ref a2, .ref a3, .ref a4, .ref a5, .ref a6, .ref a7, .ref a8]) nl
      have t8 := s9
      have t7 := s8.trans t8
      have t6 := s7.trans t7
      have t5 := s6.trans t6
      have t4 := s5.trans t5
      have t3 := s4.trans t4
      have t2 := s3.trans t3
      have t1 := s2.trans t2
      refine ⟨l, _, rfl, s1.trans t1, upd_same, rfl, fun v hv => ?_⟩
      simp only [List.mem_cons, List.not_mem_nil, or_false] at hv
      rcases hv with rfl | rfl | rfl | rfl | rfl | rfl | rfl | rfl
      · exact Odd.same (show Odd K (upd H a1 (.tup [.int q.1, .int (0 - q.2)])) _ from odd_nums (upd_same (o := .tup [.int q.1, .int (0 - q.2)])) (by rw [e60]; omega) (by rw [e60]; omega)) t1
      · exact Odd.same (show Odd K (upd (upd H a1 (.tup [.int q.1, .int (0 - q.2)])) a2 (.tup [.int q.1, .int 0])) _ from odd_nums (upd_same (o := .tup [.int q.1, .int 0])) (by rw [e60]; omega) (by rw [e60]; omega)) t2
      · exact Odd.same (show Odd K (upd (upd (upd H a1 (.tup [.int q.1, .int (0 - q.2)])) a2 (.tup [.int q.1, .int 0])) a3 (.tup [.int (2 * q.1), .int (2 * q.2)])) _ from odd_nums (upd_same (o := .tup [.int (2 * q.1), .int (2 * q.2)])) (by rw [e60]; omega) (by rw [e60]; omega)) t3
      · exact Odd.same (show Odd K (upd (upd (upd (upd H a1 (.tup [.int q.1, .int (0 - q.2)])) a2 (.tup [.int q.1, .int 0])) a3 (.tup [.int (2 * q.1), .int (2 * q.2)])) a4 (.tup [.int 0, .int q.2])) _ from odd_nums (upd_same (o := .tup [.int 0, .int q.2])) (by rw [e60]; omega) (by rw [e60]; omega)) t4
      · exact Odd.same (show Odd K (upd (upd (upd (upd (upd H a1 (.tup [.int q.1, .int (0 - q.2)])) a2 (.tup [.int q.1, .int 0])) a3 (.tup [.int (2 * q.1), .int (2 * q.2)])) a4 (.tup [.int 0, .int q.2])) a5 (.tup [.bl true, .int 1])) _ from odd_parts (upd_same (o := .tup [.bl true, .int 1])) (.bl true) (.int 1) rfl) t5
      · exact Odd.same (show Odd K (upd (upd (upd (upd (upd (upd H a1 (.tup [.int q.1, .int (0 - q.2)])) a2 (.tup [.int q.1, .int 0])) a3 (.tup [.int (2 * q.1), .int (2 * q.2)])) a4 (.tup [.int 0, .int q.2])) a5 (.tup [.bl true, .int 1])) a6 (.tup [.int 1, .bl true])) _ from odd_parts (upd_same (o := .tup [.int 1, .bl true])) (.int 1) (.bl true) rfl) t6
      · exact Odd.same (show Odd K (upd (upd (upd (upd (upd (upd (upd H a1 (.tup [.int q.1, .int (0 - q.2)])) a2 (.tup [.int q.1, .int 0])) a3 (.tup [.int (2 * q.1), .int (2 * q.2)])) a4 (.tup [.int 0, .int q.2])) a5 (.tup [.bl true, .int 1])) a6 (.tup [.int 1, .bl true])) a7 (.lst [.int q.1, .int q.2])) _ from ⟨false, .no (.base (.base (.lst (upd_same (o := .lst [.int q.1, .int q.2]))))) (by rfl)⟩) t7
      · exact Odd.same (show Odd K (upd (upd (upd (upd (upd (upd (upd (upd H a1 (.tup [.int q.1, .int (0 - q.2)])) a2 (.tup [.int q.1, .int 0])) a3 (.tup [.int (2 * q.1), .int (2 * q.2)])) a4 (.tup [.int 0, .int q.2])) a5 (.tup [.bl true, .int 1])) a6 (.tup [.int 1, .bl true])) a7 (.lst [.int q.1, .int q.2])) a8 (.tup [.int q.1])) _ from ⟨false, .len (upd_same (o := .tup [.int q.1])) (show (1 : Nat) ≠ 2 by decide) (show (1 : Nat) ≤ 1000 by decide)⟩) t8
    · obtain ⟨l, xs, rfl, z, hl, l8, od⟩ := hM
      refine ⟨_, rfl, _, rfl, _, rfl, _, rfl, len3, fun b1 m1 => ⟨two_ok, fun b2 m2 => ⟨two_ok, fun b3 m3 => fun b4 m4 => ⟨_, rfl, _, rfl, two_ok, fun b5 m5 => ⟨two_ok, fun b6 m6 => ⟨two_ok, fun b7 m7 => ⟨two_ok, fun b8 m8 => ⟨_, rfl, fun ea ed H2 z1 na nd x1 x2 => fun ga gd H3 z2 na' nd' x3 x4 => ⟨two_ok, fun b9 m9 => ⟨len13, fun l2 nl2 => ?_⟩⟩⟩⟩⟩⟩⟩⟩⟩⟩
      have r1 := same_upd (o := .tup [.int q.1, .int q.2, .int 1]) m1
      have r2 := same_upd (o := .tup [.non, .int 1]) m2
      have r3 := same_upd (o := .tup [.str "1", .int 1]) m3
      have r4 := same_upd (o := .dK []) m4
      have r5 := same_upd (o := .tup [.int q.2, .int q.1]) m5
      have r6 := same_upd (o := .tup [.int 1, .int 2]) m6
      have r7 := same_upd (o := .tup [.ref b6, .int 1]) m7
      have r8 := same_upd (o := .tup [.int 0, .int 2]) m8
      have r9 := same_upd (o := .tup [.ref ga, .int 1]) m9
      have r10 := same_upd (o := .lst [.non, .int 0, .int 7, .str "12", .ref b1, .ref b2, .ref b3, .ref b4, .ref b5, .ref b7, .ref b8, .ref ea, .ref b9]) nl2
      have T9 := r10
      have TH3 := r9.trans T9
      have TH2 := z2.trans TH3
      have T8 := z1.trans TH2
      have T7 := r8.trans T8
      have T6 := r7.trans T7
      have T5 := r6.trans T6
      have T4 := r5.trans T5
      have T3 := r4.trans T4
      have T2 := r3.trans T3
      have T1 := r2.trans T2
      have T0 := r1.trans T1
      have hG := hb.same (z.trans T0)
      refine ⟨l, l2, xs, _, rfl, rfl, T0 _ _ hl, upd_same, by rw [l8, sizeLine_eq]; exact (by decide : 8 + 13 ≤ 16777216), fun l3 nl3 => ?_⟩
      have rz := same_upd (o := .lst (xs ++ [.non, .int 0, .int 7, .str "12", .ref b1, .ref b2, .ref b3, .ref b4, .ref b5, .ref b7, .ref b8, .ref ea, .ref b9])) nl3
      refine ⟨b, l3, _, rfl, hG.same rz, upd_same, hG.ne_of nl3, by simp, by rw [List.length_append, l8]; exact (by decide : 8 + 13 ≤ 1000), fun i u Hf hi hbf kf => ?_⟩
      suffices ho : Odd K (upd _ l2 (.lst [.non, .int 0, .int 7, .str "12", .ref b1, .ref b2, .ref b3, .ref b4, .ref b5, .ref b7, .ref b8, .ref ea, .ref b9])) u by
        obtain ⟨c, ho⟩ := ho.same rz
        exact k u c Hf (ho.keep (hG.same rz) hbf kf) hbf ((Keep.of ((z.trans T0).trans rz)).trans kf)
      have hu := List.mem_of_getElem? hi
      rcases List.mem_append.mp hu with hu | hu
      · exact (od u hu).same T0
      · simp only [List.mem_cons, List.not_mem_nil, or_false] at hu
        rcases hu with rfl | rfl | rfl | rfl | rfl | rfl | rfl | rfl | rfl | rfl | rfl | rfl | rfl
        · exact ⟨false, .no (.base (.base .non)) (by rfl)⟩
        · exact ⟨false, .no (.base (.base (.int _))) (by rfl)⟩
        · exact ⟨false, .no (.base (.base (.int _))) (by rfl)⟩
        · exact ⟨false, .no (.base (.base (.str _))) (by rfl)⟩
        · exact Odd.same (show Odd K (upd H' b1 (.tup [.int q.1, .int q.2, .int 1])) _ from ⟨false, .len (upd_same (o := .tup [.int q.1, .int q.2, .int 1])) (show (3 : Nat) ≠ 2 by decide) (show (3 : Nat) ≤ 1000 by decide)⟩) T1
        · exact Odd.same (show Odd K (upd (upd H' b1 (.tup [.int q.1, .int q.2, .int 1])) b2 (.tup [.non, .int 1])) _ from odd_parts (upd_same (o := .tup [.non, .int 1])) .non (.int 1) rfl) T2
        · exact Odd.same (show Odd K (upd (upd (upd H' b1 (.tup [.int q.1, .int q.2, .int 1])) b2 (.tup [.non, .int 1])) b3 (.tup [.str "1", .int 1])) _ from odd_parts (upd_same (o := .tup [.str "1", .int 1])) (.str _) (.int 1) rfl) T3
        · exact Odd.same (show Odd K (upd (upd (upd (upd H' b1 (.tup [.int q.1, .int q.2, .int 1])) b2 (.tup [.non, .int 1])) b3 (.tup [.str "1", .int 1])) b4 (.dK [])) _ from ⟨false, .no (.base (.base (.dK (upd_same (o := .dK []))))) (by rfl)⟩) T4
        · exact Odd.same (show Odd K (upd (upd (upd (upd (upd H' b1 (.tup [.int q.1, .int q.2, .int 1])) b2 (.tup [.non, .int 1])) b3 (.tup [.str "1", .int 1])) b4 (.dK [])) b5 (.tup [.int q.2, .int q.1])) _ from odd_nums (upd_same (o := .tup [.int q.2, .int q.1])) (by rw [e60]; omega) (by rw [e60]; omega)) T5
        · exact Odd.same (show Odd K (upd (upd (upd (upd (upd (upd (upd H' b1 (.tup [.int q.1, .int q.2, .int 1])) b2 (.tup [.non, .int 1])) b3 (.tup [.str "1", .int 1])) b4 (.dK [])) b5 (.tup [.int q.2, .int q.1])) b6 (.tup [.int 1, .int 2])) b7 (.tup [.ref b6, .int 1])) _ from odd_parts (upd_same (o := .tup [.ref b6, .int 1])) (WhV.tup (r7 _ _ upd_same)) (.int 1) rfl) T7
        · exact Odd.same (show Odd K (upd (upd (upd (upd (upd (upd (upd (upd H' b1 (.tup [.int q.1, .int q.2, .int 1])) b2 (.tup [.non, .int 1])) b3 (.tup [.str "1", .int 1])) b4 (.dK [])) b5 (.tup [.int q.2, .int q.1])) b6 (.tup [.int 1, .int 2])) b7 (.tup [.ref b6, .int 1])) b8 (.tup [.int 0, .int 2])) _ from odd_nums (upd_same (o := .tup [.int 0, .int 2])) (by decide) (by decide)) T8
        · exact Odd.same (show Odd K H2 _ from ⟨false, .no (.exc O.is x1 x2) O.kT⟩) TH2
        · exact Odd.same (show Odd K (upd H3 b9 (.tup [.ref ga, .int 1])) _ from odd_parts (upd_same (o := .tup [.ref ga, .int 1])) (WhV.exc O (r9 _ _ x3) (r9 _ _ x4)) (.int 1) rfl) T9
end
end M02

namespace M02
open PySem PySem.Spec PyProof.Rows L2 SX
open C8 (Cal pe_c pe_gc pss_cut)
theorem seq_ext {K : PySem.W.Frag} {a : Addr} {H H' : Hp} {xs : List V} (x : LamX.ExtN H H') (h : SqL K H a xs) : SqL K H' a xs := by
  rcases h with (h | ⟨o, h⟩) | h
  · exact .inl (.inl (x _ _ h (fun ps z => by cases z)))
  · exact .inl (.inr ⟨o, x _ _ h (fun ps z => by cases z)⟩)
  · exact .inr h
theorem ext_keepN {b : Addr} {H H' : Hp} (k : KeepN b H H') (n : H b = none) : LamX.ExtN H H' := fun a o e m => k a o e (ne_of_none e n) m
theorem tpl_keepN {b p : Addr} {H H' : Hp} {q : Q} (k : KeepN b H H') (x : BoxAt H b) (e : H p = some (tpl q)) : H' p = some (tpl q) := k _ _ e (x.ne_tup e) tpl_ne
theorem nil_ok : ([] : List V).length ≤ sizeLine := Nat.zero_le _
theorem smq_of {q : Q} (g : Fr q) (h1 : q.1.natAbs ≤ 1000000) (h2 : q.2.natAbs ≤ 1000000) : SmQ q := ⟨Nat.lt_of_le_of_lt h1 (by decide), g.pos, Nat.lt_of_le_of_lt h2 (by decide)⟩
theorem len6 {x y z u v t : V} : [x, y, z, u, v, t].length ≤ sizeLine := by
  rw [sizeLine_eq]
  exact (by decide : 6 ≤ 16777216)
theorem FrL.take {H : Hp} {vs : List V} {qs : List Q} (h : FrL H vs qs) : ∀ n, FrL H (vs.take n) (qs.take n) := by
  induction h with
  | nil => intro n; simp; exact .nil
  | cons a _ ih =>
    intro n
    cases n with
    | zero => exact .nil
    | succ n => rw [List.take_succ_cons, List.take_succ_cons]; exact .cons a (ih n)
theorem cut6 (x y z : V) {d : Int} (d0 : 0 ≤ d) (d1 : d < 6) : ∃ n, 1 ≤ n ∧ n ≤ 6 ∧ cutV [x, y, z, x, y, z] none (some (1 + d)) = [x, y, z, x, y, z].take n := by
  have : d = 0 ∨ d = 1 ∨ d = 2 ∨ d = 3 ∨ d = 4 ∨ d = 5 := by omega
  rcases this with rfl | rfl | rfl | rfl | rfl | rfl
  · exact ⟨1, by decide, by decide, rfl⟩
  · exact ⟨2, by decide, by decide, rfl⟩
  · exact ⟨3, by decide, by decide, rfl⟩
  · exact ⟨4, by decide, by decide, rfl⟩
  · exact ⟨5, by decide, by decide, rfl⟩
  · exact ⟨6, by decide, by decide, rfl⟩
section
variable {P : Program} {w : World} {K : PySem.W.Frag} {mg : Str → Option Value} {base : Heap}
abbrev s_law : Stmt := topS 37
abbrev n_law : List Str := ["script", "k", "box", "one", "other", "third", "value", "some", "odd", "wrong"]
theorem sc_law : FnScope n_law ["script"] (defScope s_law) := ⟨rfl, rfl, rfl, by decide +kernel, rfl, by decide +kernel, by decide +kernel⟩
abbrev qB : Str := (envOfC "law" (defScope s_law) 0 0 .none).qual ++ "<lambda>"
def spLaw (K : PySem.W.Frag) (T : List (Addr × Str)) : Sp := fun vs H Q _ => ∃ (a : Addr) (ns : List Int), vs = [.ref a] ∧ SqL K H a (ns.map V.int) ∧ ns.length ≤ 63 ∧ LamX.Tabs T H ∧ ∀ H', Q (.bl true) H'
structure LawC (P : Program) (w : World) (K : PySem.W.Frag) (mg : Str → Option Value) (base : Heap) (CN CR : Addr) (T : List (Addr × Str)) : Prop where
  box : Cal P w K mg base 1 "_law_box" (spBox K) []
  fraction : Cal P w K mg base 3 "_law_fraction" spFraction []
  pair : Cal P w K mg base 9 "_law_pair_right" (spPair T) []
  pick : Cal P w K mg base 2 "_law_pick" (spPick K) []
  round : Cal P w K mg base 2 "_law_round_right" spRound []
  take : Cal P w K mg base 1 "_law_take" spTake []
  some_ : Cal P w K mg base 5 "_law_some_right" spSome []
  near : Cal P w K mg base 4 "_law_near_right" spNear []
  odd : Cal P w K mg base 4 "_law_odd" (spOdd K) []
  truth : Cal P w K mg base 1 "_law_truth" spTruth []
  is_fraction : Cal P w K mg base 2 "is_fraction" (spIsFr K) []
  lis_fraction : Cal P w K mg base 2 "_law_is_fraction" (spLIsFr K) []
  kis_fraction : CalK P w K mg base 2 "is_fraction" ["value"] id (spIsFr K)
  least_of : CalX P w K mg base 3 "least_of" (spBest CR leQ)
  kgreatest_of : CalK P w K mg base 3 "greatest_of" ["some"] id (spBest CR fun q r => leQ r q)
  weighed : Cal P w K mg base 4 "weighed" spWei []
  floor_of : Cal P w K mg base 1 "floor_of" spFloor []
  ceiling_of : Cal P w K mg base 1 "ceiling_of" spCeil []
  fraction_of : CalX P w K mg base 3 "fraction_of" (spFrac CN)
theorem ok_law {f c PB CN CR : Addr} {T : List (Addr × Str)} {fd : FuncData} (F : FunC K "law" "law" s_law f fd c) (TB : LamX.TabB base mg c PB) (HM : (PB, qB) ∈ T) (HU : ∀ p ∈ T, p.1 = PB → p.2 = qB)
    (R : Df K mg "_law_refused" s_Lrefused ["action"]) (E2 : Ex2 K mg CN CR) (T0 : Txt K mg) (C : LawC P w K mg base CN CR T) : FnOk P w K mg base CX0 10 f fd ["script"] (spLaw K T) := by
  obtain ⟨c_Lbox, c_Lfraction, c_Lpair_right, c_Lpick, c_Lround_right, c_Ltake, c_Lsome_right, c_Lnear_right, c_Lodd, c_Ltruth, c_is_fraction, c_Lis_fraction, k_is_fraction_value, x_least_of, k_greatest_of_some, c_weighed, c_floor_of, c_ceiling_of, x_fraction_of⟩ := C
  refine F.ok sc_law (fun vs H Q E h => ?_) (fun A outer s H vs Q E hr h => ?_)
  · obtain ⟨a, ns, rfl, _⟩ := h
    rfl
  · obtain ⟨a, ns, rfl, hS, l63, ht, k⟩ := h
    refine ⟨_, (pss_cut (ps_for PassesOwn.never rfl (pi_range1 (by rfl) T0.b_range (pa_cons (pe_op op_add pe_int (pe_callTy call_int1 (by rfl) T0.b_int (by decide +kernel) (pa_cons (pe_cmpR op_gt (pe_callB call_len_seq (by rfl) T0.b_len (by decide +kernel) (pa_cons (pv 0) pa_nil)) pe_int (nomark _)) pa_nil))) pa_nil)) (pg_name (i := 1) sc_law.nd rfl (.inl rfl)) (pss_cut (ps_set (i := 2) sc_law.nd rfl (.inl rfl) (pe_c c_Lbox hr (by decide) (by rfl) (pa_cons (pv 0) (pa_cons (pv 1) pa_nil))))
        (pss_cut (ps_par3 (i := 3) (j := 4) (l := 5) (by rfl) sc_law.nd rfl rfl rfl (by decide) (by decide) (by decide) rfl rfl rfl (pa_cons (pe_c c_Lfraction hr (by decide) (by rfl) (pa_cons (pv 2) pa_nil)) (pa_cons (pe_c c_Lfraction hr (by decide) (by rfl) (pa_cons (pv 2) pa_nil)) (pa_cons (pe_c c_Lfraction hr (by decide) (by rfl) (pa_cons (pv 2) pa_nil)) pa_nil))) (by rfl))
        (pss_cut (ps_if (PW.pt (pw_or (pt_not (pt_val (pe_c c_Lpair_right hr (by decide) (by rfl) (pa_cons (pv 2) (pa_cons (pv 3) (pa_cons (pv 4) pa_nil)))))) (pw_or1 (pt_not (pt_val (pe_c c_Lpair_right hr (by decide) (by rfl) (pa_cons (pv 2) (pa_cons (pv 4) (pa_cons (pe_c c_Lpick hr (by decide) (by rfl) (pa_cons (pv 2) (pa_cons (pe_lst (pa_cons (pv 3) (pa_cons (pv 4) (pa_cons (pv 5) (pa_cons (pe_tup (pa_cons pe_int (pa_cons pe_int pa_nil))) pa_nil))))) pa_nil))) pa_nil))))))))) (pss_one (ps_ret pe_bl)) pss_nil)
        (pss_cut (ps_for PassesOwn.never rfl (pi_list (pe_lst (pa_cons (pv 3) (pa_cons (pv 4) (pa_cons (pe_tup (pa_cons (pe_ix ix_tup (pv 5) pe_int (fun _ _ => rfl)) (pa_cons pe_int pa_nil))) (pa_cons (pe_tup (pa_cons (pe_op op_sub pe_int (pe_ix ix_tup (pv 3) pe_int (fun _ _ => rfl))) (pa_cons (pe_ix ix_tup (pv 3) pe_int (fun _ _ => rfl)) pa_nil))) pa_nil)))))) (pg_name (i := 6) sc_law.nd rfl (.inl rfl)) (pss_one (ps_if (pt_not (pt_val (pe_c c_Lround_right hr (by decide) (by rfl) (pa_cons (pv 6) pa_nil)))) (pss_one (ps_ret pe_bl)) pss_nil)))
        (pss_cut (ps_set (i := 7) sc_law.nd rfl (.inl rfl) (pe_slice sl_list (pe_lst (pa_cons (pv 3) (pa_cons (pv 4) (pa_cons (pv 5) (pa_cons (pv 3) (pa_cons (pv 4) (pa_cons (pv 5) pa_nil))))))) po_none (po_some (pe_op op_add pe_int (pe_c c_Ltake hr (by decide) (by rfl) (pa_cons (pv 2) (pa_cons pe_int pa_nil)))))))
        (pss_cut (ps_if (PW.pt (pw_or (pt_not (pt_val (pe_c c_Lsome_right hr (by decide) (by rfl) (pa_cons (pv 2) (pa_cons (pv 7) pa_nil))))) (pw_or1 (pt_not (pt_val (pe_c c_Lnear_right hr (by decide) (by rfl) (pa_cons (pv 2) pa_nil))))))) (pss_one (ps_ret pe_bl)) pss_nil)
        (pss_cut (ps_set (i := 8) sc_law.nd rfl (.inl rfl) (pe_c c_Lodd hr (by decide) (by rfl) (pa_cons (pv 2) (pa_cons (pv 3) pa_nil))))
        (pss_one (ps_if (PW.pt (pw_or (pt_not (pt_val (pe_c c_Ltruth hr (by decide) (by rfl) (pa_cons (pe_c c_is_fraction hr (by decide) (by rfl) (pa_cons (pv 8) pa_nil)) (pa_cons (pe_c c_Lis_fraction hr (by decide) (by rfl) (pa_cons (pv 8) pa_nil)) pa_nil))))) (pw_or1 (pt_cmpR op_isnot_bl (pe_kw k_is_fraction_value hr (by decide) (by rfl) (pk_cons (pv 3) pk_nil)) pe_bl (by rfl))))) (pss_one (ps_ret pe_bl)) pss_nil))))))))))
      (pss_cut (ps_set (i := 9) sc_law.nd rfl (.inl rfl) (pe_lst (pa_cons (pe_ref (k := 7) R E2 TB rfl HM HU hr (by decide) (by rfl) (LamX.lamS_by (show LamX.lamSB (defScope s_law) _ = true from (by decide +kernel))) rfl (fun _ _ _ _ _ => rfl) (fun A outer s H E f c2 hr => pe_xE (passes_call (takes_of rfl rfl rfl rfl) fun _ _ _ _ z => z) x_least_of hr (by decide) (by rfl) (pa_cons (pe_tup pa_nil) pa_nil))) pa_nil)))
      (pss_cut (ps_expr (pe_bm PySem.F.plainAttrs_list PySem.F.slot_list_append PySem.F.type_list_append mt_append (pv 9) (pa_cons (pe_ref (k := 7) R E2 TB rfl HM HU hr (by decide) (by rfl) (LamX.lamS_by (show LamX.lamSB (defScope s_law) _ = true from (by decide +kernel))) rfl (fun _ _ _ _ _ => rfl) (fun A outer s H E f c2 hr => pe_kwE (passes_call (takes_of rfl rfl rfl rfl) fun _ _ _ _ z => z) k_greatest_of_some hr (by decide) (by rfl) (pk_cons (pe_tup pa_nil) pk_nil))) pa_nil)))
      (pss_cut (ps_if (PW.pt (pw_or (pt_cmpR (op_neD hr.units) (pv 9) (pe_op op_rep (pe_lst (pa_cons (pe_tup (pa_cons pe_str (pa_cons pe_str pa_nil))) pa_nil)) pe_int) (nomark _)) (pw_or (pt_cmpR (op_neD hr.units) (pe_c c_weighed hr (by decide) (by rfl) (pa_cons (pe_tup pa_nil) (pa_cons (pe_tup pa_nil) pa_nil))) (pe_tup (pa_cons pe_int (pa_cons pe_int pa_nil))) (nomark _)) (pw_or1 (pt_cmpR (op_neD hr.units) (pe_c c_weighed hr (by decide) (by rfl) (pa_cons (pe_tup (pa_cons pe_int (pa_cons pe_int pa_nil))) (pa_cons (pe_tup (pa_cons (pe_tup (pa_cons pe_int (pa_cons pe_int pa_nil))) (pa_cons (pe_tup (pa_cons pe_int (pa_cons pe_int pa_nil))) pa_nil))) pa_nil))) (pe_tup (pa_cons pe_int (pa_cons pe_int pa_nil))) (nomark _)))))) (pss_one (ps_ret pe_bl)) pss_nil)
      (pss_cut (ps_if (PW.pt (pw_or (pt_cmpR op_ne (pe_c c_floor_of hr (by decide) (by rfl) (pa_cons (pe_tup (pa_cons (pe_op op_sub pe_int pe_int) (pa_cons pe_int pa_nil))) pa_nil)) (pe_op op_sub pe_int pe_int) (nomark _)) (pw_or (pt_cmpR op_ne (pe_c c_ceiling_of hr (by decide) (by rfl) (pa_cons (pe_tup (pa_cons (pe_op op_sub pe_int pe_int) (pa_cons pe_int pa_nil))) pa_nil)) (pe_op op_sub pe_int pe_int) (nomark _)) (pw_or (pt_cmpR op_ne (pe_c c_floor_of hr (by decide) (by rfl) (pa_cons (pe_tup (pa_cons pe_int (pa_cons pe_int pa_nil))) pa_nil)) pe_int (nomark _)) (pw_or1 (pt_cmpR op_ne (pe_c c_ceiling_of hr (by decide) (by rfl) (pa_cons (pe_tup (pa_cons (pe_op op_sub pe_int pe_int) (pa_cons pe_int pa_nil))) pa_nil)) (pe_op op_sub pe_int pe_int) (nomark _))))))) (pss_one (ps_ret pe_bl)) pss_nil)
      (pss_one (ps_ret (pe_and (pe_cmpR op_is_bl (pe_c c_is_fraction hr (by decide) (by rfl) (pa_cons (pe_tup (pa_cons pe_int (pa_cons pe_int pa_nil))) pa_nil)) pe_bl (by rfl)) (pe_and (pe_cmpR op_is_bl (pe_c c_is_fraction hr (by decide) (by rfl) (pa_cons (pe_tup (pa_cons pe_int (pa_cons pe_int pa_nil))) pa_nil)) pe_bl (by rfl)) (pe_one (pe_cmpR (op_eqD hr.units) (pe_x x_fraction_of hr (by decide) (by rfl) (pa_cons pe_int (pa_cons (pe_op op_sub pe_int pe_int) pa_nil))) (pe_tup (pa_cons (pe_op op_sub pe_int pe_int) (pa_cons pe_int pa_nil))) (nomark _)))))))))))), ?_⟩
    refine ⟨fun σ H' => ∃ y1 y2 y3 y4 y5 y6 y7 y8 : Option V, σ = [some (.ref a), y1, y2, y3, y4, y5, y6, y7, y8, none] ∧ LamX.ExtN H H' ∧ LamX.Tabs T H', ?_, fun σ H' hM => ?_⟩
    · refine ⟨_, rfl, a, _, rfl, .inl hS, _, _, rfl, rfl, .inr ⟨_, rfl, _, _, rfl, rfl, ?_⟩⟩
      refine ⟨_, rfl, by split <;> omega, by split <;> omega, for_range (lo := 0) (n := _) (fun i σ H' => ∃ y1 y2 y3 y4 y5 y6 y7 y8 : Option V, σ = [some (.ref a), y1, y2, y3, y4, y5, y6, y7, y8, none] ∧ LamX.ExtN H H' ∧ LamX.Tabs T H')
        ⟨none, none, none, none, none, none, none, none, rfl, ext_of (Same.refl _), ht⟩ (fun i σ H' hi h => ?_) (fun σ H' h => h)⟩
      obtain ⟨y1, y2, y3, y4, y5, y6, y7, y8, rfl, x, t⟩ := h
      -- box
      refine ⟨fun σ H2 => ∃ p, σ = [some (.ref a), some (.int (0 + (i : Int))), some (.ref p), y3, y4, y5, y6, y7, y8, none] ∧ H' p = none ∧ Same H' H2 ∧ BoxAt H2 p, ?_, fun σ H2 hM => ?_⟩
      · exact ⟨_, rfl, _, rfl, a, ns, i, by show [V.ref a, V.int (0 + (i : Int))] = _; rw [Int.zero_add], seq_ext x hS, fun H2 p s2 np hb => ⟨p, rfl, np, s2, hb⟩⟩
      obtain ⟨p, rfl, np, sb, hb⟩ := hM
      have t2 : LamX.Tabs T H2 := t.ext sb
      -- three fractions
      refine ⟨fun σ H3 => ∃ (q1 q2 q3 : M02.Q) (p1 p2 p3 : Addr), σ = [some (.ref a), some (.int (0 + (i : Int))), some (.ref p), some (.ref p1), some (.ref p2), some (.ref p3), y6, y7, y8, none] ∧ Keep p H2 H3 ∧ BoxAt H3 p ∧ H3 p1 = some (tpl q1) ∧ H3 p2 = some (tpl q2) ∧ H3 p3 = some (tpl q3) ∧ Fr q1 ∧ Fr q2 ∧ Fr q3 ∧ SmQ q1 ∧ SmQ q2 ∧ SmQ q3, ?_, fun σ H3 hM => ?_⟩
      · refine ⟨_, rfl, p, rfl, hb, fun q1 p1 Ha g1 u1 v1 hb1 k1 e1 => ⟨_, rfl, p, rfl, hb1, fun q2 p2 Hb g2 u2 v2 hb2 k2 e2 => ⟨_, rfl, p, rfl, hb2, fun q3 p3 Hc g3 u3 v3 hb3 k3 e3 => ⟨_, _, _, rfl, ?_⟩⟩⟩⟩
        have f2 := k3.at_ne hb2 e2 (fun xs z => by unfold tpl at z; cases z)
        have f1 := k2.at_ne hb1 e1 (fun xs z => by unfold tpl at z; cases z)
        have f1' := k3.at_ne hb2 f1 (fun xs z => by unfold tpl at z; cases z)
        exact ⟨q1, q2, q3, p1, p2, p3, rfl, (k1.trans k2).trans k3, hb3, f1', f2, e3, g1, g2, g3, smq_of g1 u1 v1, smq_of g2 u2 v2, smq_of g3 u3 v3⟩
      obtain ⟨q1, q2, q3, p1, p2, p3, rfl, k3, hb3, h1, h2, h3, g1, g2, g3, s1, s2, s3⟩ := hM
      have t3 : LamX.Tabs T H3 := tabs_keep t2 hb k3
      have xH : LamX.ExtN H' H3 := ext_keepN ((KeepN.of_keep (.of sb)).trans (.of_keep k3)) np
      -- pairs
      refine ⟨fun σ H4 => σ = [some (.ref a), some (.int (0 + (i : Int))), some (.ref p), some (.ref p1), some (.ref p2), some (.ref p3), y6, y7, y8, none] ∧ KeepN p H3 H4 ∧ BoxAt H4 p ∧ LamX.Tabs T H4, ?_, fun σ H4 hM => ?_⟩
      · refine ⟨_, rfl, _, rfl, _, rfl, p, _, _, q1, q2, rfl, hb3, ⟨p1, rfl, h1⟩, ⟨p2, rfl, h2⟩, s1, s2, g1, g2, t3, fun H4 hb4 k4 t4 => ⟨true, rfl, iteF ?_⟩⟩
        have h1' := tpl_keepN k4 hb3 h1
        have h2' := tpl_keepN k4 hb3 h2
        have h3' := tpl_keepN k4 hb3 h3
        refine ⟨_, rfl, _, rfl, _, rfl, _, rfl, _, rfl, _, rfl, two_ok, fun d nd => ⟨len4, fun l nl => ?_⟩⟩
        have z1 := same_upd (o := .tup [.int 0, .int 1]) nd
        have z2 := z1.trans (same_upd (o := .lst [.ref p1, .ref p2, .ref p3, .ref d]) nl)
        have ed : (upd (upd H4 d (.tup [.int 0, .int 1])) l (.lst [.ref p1, .ref p2, .ref p3, .ref d])) d = some (tpl (0, 1)) := by rw [upd_ne (ne_of_none upd_same nl)]; exact upd_same
        have hb5 := hb4.same z2
        refine ⟨p, l, _, rfl, hb5, upd_same, (hb4.same z1).ne_of nl, by simp, by simp, fun i v H5 hi hb6 k6 => ?_⟩
        obtain ⟨qv, fv, sv, gv⟩ : ∃ qv, FrV (upd (upd H4 d (.tup [.int 0, .int 1])) l (.lst [.ref p1, .ref p2, .ref p3, .ref d])) v qv ∧ SmQ qv ∧ Fr qv := by
          have := List.mem_of_getElem? hi
          simp only [List.mem_cons, List.not_mem_nil, or_false] at this
          rcases this with rfl | rfl | rfl | rfl
          · exact ⟨q1, ⟨_, rfl, z2 _ _ h1'⟩, s1, g1⟩
          · exact ⟨q2, ⟨_, rfl, z2 _ _ h2'⟩, s2, g2⟩
          · exact ⟨q3, ⟨_, rfl, z2 _ _ h3'⟩, s3, g3⟩
          · exact ⟨(0, 1), ⟨_, rfl, ed⟩, sm01, fr01⟩
        have k7 : KeepN p H4 H5 := (KeepN.of_keep (.of z2)).trans (.of_keep k6)
        exact ⟨p, _, v, q2, qv, rfl, hb6, ⟨p2, rfl, tpl_keepN k7 hb4 h2'⟩, fv.keep hb5 k6, s2, sv, g2, gv, tabs_keep (t4.ext z2) hb5 k6, fun H6 hb7 k8 t8 => ⟨true, rfl, iteF ⟨rfl, (k4.trans k7).trans k8, hb7, t8⟩⟩⟩
      obtain ⟨rfl, k4, hb4, t4⟩ := hM
      have h1' := tpl_keepN k4 hb3 h1
      have h2' := tpl_keepN k4 hb3 h2
      have h3' := tpl_keepN k4 hb3 h3
      -- rounding
      refine ⟨fun σ H5 => ∃ y6, σ = [some (.ref a), some (.int (0 + (i : Int))), some (.ref p), some (.ref p1), some (.ref p2), some (.ref p3), y6, y7, y8, none] ∧ Same H4 H5, ?_, fun σ H5 hM => ?_⟩
      · refine ⟨_, rfl, _, rfl, _, rfl, p3, _, 0, .int q3.1, rfl, rfl, sq_tup h3', rfl, two_ok, fun d1 nd1 => ?_⟩
        have z1 := same_upd (o := .tup [.int q3.1, .int 1]) nd1
        refine ⟨_, rfl, p1, _, 0, .int q1.1, rfl, rfl, sq_tup (z1 _ _ h1'), rfl, _, _, rfl, rfl, _, rfl, p1, _, 1, .int q1.2, rfl, rfl, sq_tup (z1 _ _ h1'), rfl, two_ok, fun d2 nd2 => ⟨len4, fun l nl => ?_⟩⟩
        have z2 := z1.trans (same_upd (o := .tup [.int (0 - q1.1), .int q1.2]) nd2)
        have z3 := z2.trans (same_upd (o := .lst [.ref p1, .ref p2, .ref d1, .ref d2]) nl)
        have r2 := same_upd (o := .lst [.ref p1, .ref p2, .ref d1, .ref d2]) nl
        have r1 := (same_upd (o := .tup [.int (0 - q1.1), .int q1.2]) nd2).trans r2
        have all : ∀ x ∈ [V.ref p1, .ref p2, .ref d1, .ref d2], ∃ q, FrV (upd (upd (upd H4 d1 (.tup [.int q3.1, .int 1])) d2 (.tup [.int (0 - q1.1), .int q1.2])) l (.lst [.ref p1, .ref p2, .ref d1, .ref d2])) x q ∧ SmQ q ∧ Fr q := fun x hx => by
          simp only [List.mem_cons, List.not_mem_nil, or_false] at hx
          rcases hx with rfl | rfl | rfl | rfl
          · exact ⟨q1, ⟨_, rfl, z3 _ _ h1'⟩, s1, g1⟩
          · exact ⟨q2, ⟨_, rfl, z3 _ _ h2'⟩, s2, g2⟩
          · exact ⟨(q3.1, 1), ⟨_, rfl, r1 _ _ upd_same⟩, ⟨s3.top, show (0 : Int) < 1 from by decide, show (1 : Int).natAbs < 2 ^ 24 from by decide⟩, ⟨show (0 : Int) < 1 from by decide, Nat.gcd_one_right _⟩⟩
          · refine ⟨(0 - q1.1, q1.2), ⟨_, rfl, r2 _ _ upd_same⟩, ⟨?_, s1.pos, s1.bot⟩, ⟨g1.pos, ?_⟩⟩
            · show (0 - q1.1).natAbs < 2 ^ 24
              rw [Int.zero_sub, Int.natAbs_neg]; exact s1.top
            · show Nat.gcd (0 - q1.1).natAbs q1.2.natAbs = 1
              rw [Int.zero_sub, Int.natAbs_neg]; exact g1.co
        refine ⟨l, rfl, ⟨_, sq_lst upd_same⟩, for_list (K := K) (a := l) (xs := [.ref p1, .ref p2, .ref d1, .ref d2]) (fun j σ H5 => ∃ y6, σ = [some (.ref a), some (.int (0 + (i : Int))), some (.ref p), some (.ref p1), some (.ref p2), some (.ref p3), y6, y7, y8, none] ∧ Same (upd (upd (upd H4 d1 (.tup [.int q3.1, .int 1])) d2 (.tup [.int (0 - q1.1), .int q1.2])) l (.lst [.ref p1, .ref p2, .ref d1, .ref d2])) H5)
          ⟨y6, rfl, Same.refl _⟩ (fun j σ H5 hj h => ?_) (fun j v σ H5 hv h => ?_) (fun σ H5 h => ?_)⟩
        · obtain ⟨_, _, sl⟩ := h
          exact sq_lst (sl _ _ upd_same)
        · obtain ⟨y6', rfl, sl⟩ := h
          obtain ⟨q, fv, sv, gv⟩ := all v (List.mem_of_getElem? hv)
          exact ⟨_, rfl, v, q, rfl, fv.same sl, sv, gv, fun H6 s6 => ⟨true, rfl, iteF ⟨_, rfl, sl.trans s6⟩⟩⟩
        · obtain ⟨y6', rfl, sl⟩ := h
          exact ⟨y6', rfl, z3.trans sl⟩
      obtain ⟨y6', rfl, z5⟩ := hM
      -- some
      refine ⟨fun σ H6 => ∃ (l : Addr) (xs : List V) (qs : List M02.Q), σ = [some (.ref a), some (.int (0 + (i : Int))), some (.ref p), some (.ref p1), some (.ref p2), some (.ref p3), y6', some (.ref l), y8, none] ∧ Keep p H5 H6 ∧ BoxAt H6 p ∧ H6 l = some (.lst xs) ∧ l ≠ p ∧ FrL H6 xs qs ∧ (∀ q ∈ qs, SmQ q) ∧ (∀ q ∈ qs, Fr q) ∧ qs ≠ [] ∧ qs.length ≤ 6, ?_, fun σ H6 hM => ?_⟩
      · refine ⟨_, rfl, _, rfl, _, rfl, _, rfl, _, rfl, _, rfl, len6, fun l0 nl0 => ?_⟩
        have hb5 := hb4.same z5
        have sl0 := same_upd (o := .lst [.ref p1, .ref p2, .ref p3, .ref p1, .ref p2, .ref p3]) nl0
        refine ⟨_, rfl, p, _, rfl, hb5.same sl0, by decide, by decide, fun d H6 d0 d1 hb6 k6 => ⟨_, _, rfl, rfl, _, rfl, l0, _, rfl, sq_lst (k6 _ _ upd_same (hb5.ne_of nl0)), fun l nl => ?_⟩⟩
        obtain ⟨n, n0, n6, ec⟩ := cut6 (.ref p1) (.ref p2) (.ref p3) d0 d1
        have sl := same_upd (o := .lst ([V.ref p1, .ref p2, .ref p3, .ref p1, .ref p2, .ref p3].take n)) nl
        have v1 : FrV H5 (.ref p1) q1 := ⟨p1, rfl, z5 _ _ h1'⟩
        have v2 : FrV H5 (.ref p2) q2 := ⟨p2, rfl, z5 _ _ h2'⟩
        have v3 : FrV H5 (.ref p3) q3 := ⟨p3, rfl, z5 _ _ h3'⟩
        have f5 : FrL H5 [.ref p1, .ref p2, .ref p3, .ref p1, .ref p2, .ref p3] [q1, q2, q3, q1, q2, q3] := .cons v1 (.cons v2 (.cons v3 (.cons v1 (.cons v2 (.cons v3 .nil)))))
        have f6 := (((f5.same sl0).keep (hb5.same sl0) k6).same sl).take n
        refine ⟨l, _, [q1, q2, q3, q1, q2, q3].take n, rfl, ?_, ?_, upd_same, hb6.ne_of nl, ?_, ?_, ?_, ?_, ?_⟩
        · exact ((Keep.of sl0).trans k6).trans (.of (same_upd nl))
        · exact hb6.same (same_upd nl)
        · show FrL (upd _ _ (.lst (cutV _ none (some (1 + d))))) (cutV _ none (some (1 + d))) _
          rw [ec]; exact f6
        · intro q hq
          have := List.mem_of_mem_take hq
          simp only [List.mem_cons, List.not_mem_nil, or_false] at this
          rcases this with rfl | rfl | rfl | rfl | rfl | rfl <;> assumption
        · intro q hq
          have := List.mem_of_mem_take hq
          simp only [List.mem_cons, List.not_mem_nil, or_false] at this
          rcases this with rfl | rfl | rfl | rfl | rfl | rfl <;> assumption
        · intro z
          have := congrArg List.length z
          rw [List.length_take] at this
          simp at this
          omega
        · rw [List.length_take]; exact Nat.le_trans (Nat.min_le_left _ _) n6
      obtain ⟨l, xs, qs, rfl, k6, hb6, hl, nlp, fl, smA, frA, nq, lq⟩ := hM
      have hb5 := hb4.same z5
      have kk : KeepN p H3 H6 := (k4.trans (.of_keep (.of z5))).trans (.of_keep k6)
      -- least, near
      refine ⟨fun σ H7 => σ = [some (.ref a), some (.int (0 + (i : Int))), some (.ref p), some (.ref p1), some (.ref p2), some (.ref p3), y6', some (.ref l), y8, none] ∧ Keep p H6 H7 ∧ BoxAt H7 p, ?_, fun σ H7 hM => ?_⟩
      · refine ⟨_, rfl, _, rfl, p, l, xs, qs, rfl, hb6, nlp, hl, fl, smA, frA, nq, lq, fun H7 hb7 k7 => ⟨true, rfl, iteF ?_⟩⟩
        exact ⟨_, rfl, p, rfl, hb7, fun H8 hb8 k8 => ⟨true, rfl, iteF ⟨rfl, k7.trans k8, hb8⟩⟩⟩
      obtain ⟨rfl, k7, hb7⟩ := hM
      have kk7 : KeepN p H3 H7 := kk.trans (.of_keep k7)
      have t7 : LamX.Tabs T H7 := tabs_keep (tabs_keep (t4.ext z5) hb5 k6) hb6 k7
      -- odd
      refine ⟨fun σ H8 => ∃ u c, σ = [some (.ref a), some (.int (0 + (i : Int))), some (.ref p), some (.ref p1), some (.ref p2), some (.ref p3), y6', some (.ref l), some u, none] ∧ OdV K H8 u c ∧ Keep p H7 H8 ∧ BoxAt H8 p, ?_, fun σ H8 hM => ?_⟩
      · exact ⟨_, rfl, _, rfl, p, _, q1, rfl, hb7, ⟨p1, rfl, tpl_keepN kk7 hb3 h1⟩, s1, fun u c H8 ho hb8 k8 => ⟨u, c, rfl, ho, k8, hb8⟩⟩
      obtain ⟨u, c, rfl, ho, k8, hb8⟩ := hM
      have kk8 : KeepN p H3 H8 := kk7.trans (.of_keep k8)
      have h18 := tpl_keepN kk8 hb3 h1
      refine ⟨_, rfl, u, c, rfl, ho, _, rfl, u, c, rfl, ho, fun H9 s9 => ⟨c, rfl, true, rfl, iteF ?_⟩⟩
      have e1 : (decide (0 < q1.2) && decide (Nat.gcd q1.1.natAbs q1.2.natAbs = 1)) = true := by rw [decide_eq_true g1.pos, decide_eq_true g1.co]; rfl
      refine ⟨_, rfl, .ref p1, _, rfl, .nums (s9 _ _ h18) (big (Nat.lt_of_lt_of_le s1.top (Nat.pow_le_pow_right (by decide) (by decide)))) (big (Nat.lt_of_lt_of_le s1.bot (Nat.pow_le_pow_right (by decide) (by decide)))), _, _, rfl, rfl, _, rfl, iteNS e1 ?_⟩
      exact ⟨_, _, _, _, _, _, _, _, rfl, x.trans (ext_keepN ((((KeepN.of_keep (.of sb)).trans (.of_keep k3)).trans kk8).trans (.of_keep (.of s9))) np), (tabs_keep t7 hb7 k8).ext s9⟩
    obtain ⟨y1, y2, y3, y4, y5, y6, y7, y8, rfl, x, t⟩ := hM
    refine ⟨fun σ H' => ∃ l e1, σ = [some (.ref a), y1, y2, y3, y4, y5, y6, y7, y8, some (.ref l)] ∧ LamX.ExtN H H' ∧ LamX.Tabs T H' ∧ FreeN H l ∧ H' l = some (.lst [.ref e1]) ∧ H' e1 = some (.tup [.str "refused", .str "none"]), ?_, fun σ H' hM => ?_⟩
    · refine ⟨t, fun H1 x1 t1 => ⟨nil_ok, fun D nD => ?_⟩⟩
      have xD : LamX.ExtN H (upd H1 D (.tup [])) := ext_at (x.trans x1) nD
      refine ⟨D, [], [], rfl, upd_same, .nil, fun q hq => by simp at hq, by simp, fun h => absurd rfl h, fun _ d H2 s2 ed => ⟨"refused", d, _, .inr ⟨rfl, rfl⟩, rfl, ed, fun p np => ⟨len1, fun l nl => ?_⟩⟩⟩
      have x3 : LamX.ExtN H (upd H2 p (.tup [.str "refused", .str "none"])) := ext_at (xD.trans (ext_of s2)) np
      refine ⟨l, p, rfl, ext_at x3 nl, ?_, freeN_of x3 nl, upd_same, by rw [upd_ne (ne_of_none upd_same nl)]; exact upd_same⟩
      exact (((t1.ext (same_upd nD)).ext s2).ext (same_upd np)).ext (same_upd nl)
    obtain ⟨l, e1, rfl, x, t, nl, hl, he⟩ := hM
    refine ⟨fun σ H' => ∃ e2, σ = [some (.ref a), y1, y2, y3, y4, y5, y6, y7, y8, some (.ref l)] ∧ LamX.ExtN H H' ∧ LamX.Tabs T H' ∧ H' l = some (.lst [.ref e1, .ref e2]) ∧ H' e1 = some (.tup [.str "refused", .str "none"]) ∧ H' e2 = some (.tup [.str "refused", .str "none"]), ?_, fun σ H' hM => ?_⟩
    · refine ⟨_, rfl, .inl ⟨rfl, _, sq_lst hl⟩, t, fun H1 x1 t1 => ⟨nil_ok, fun D nD => ?_⟩⟩
      refine ⟨D, [], [], rfl, upd_same, .nil, fun q hq => by simp at hq, by simp, fun h => absurd rfl h, fun _ d H2 s2 ed => ⟨"refused", d, _, .inr ⟨rfl, rfl⟩, rfl, ed, fun p np => ?_⟩⟩
      have y2 : LamX.ExtN H' H2 := (ext_at x1 nD).trans (ext_of s2)
      have y3 : LamX.ExtN H' (upd H2 p (.tup [.str "refused", .str "none"])) := ext_at y2 np
      have hl3 := y3 _ _ hl (fun ps z => by cases z)
      have he3 := y3 _ _ he (fun ps z => by cases z)
      refine ⟨l, _, .ref p, rfl, rfl, hl3, small1000 (show (1 : Nat) ≤ 1000 from by decide), p, rfl, ext_put (x.trans y3) nl, tabs_put (((t1.ext (same_upd nD)).ext s2).ext (same_upd np)) hl3, upd_same, ?_, ?_⟩
      · rw [upd_ne (M02.ne_of he hl (by intro z; cases z))]; exact he3
      · rw [upd_ne (ne_of_none (y2 _ _ hl (fun ps z => by cases z)) np).symm]; exact upd_same
    obtain ⟨e2, rfl, x, t, hl, he1, he2⟩ := hM
    refine ⟨fun σ H' => σ = [some (.ref a), y1, y2, y3, y4, y5, y6, y7, y8, some (.ref l)], ?_, fun σ H' hM => ?_⟩
    · refine ⟨_, rfl, two_ok, fun t1 nt1 => ⟨len1, fun l1 nl1 => ⟨l1, 2, _, rfl, rfl, upd_same, by decide, by decide, by rw [sizeLine_eq]; exact (by decide : 1 * 2 ≤ 16777216), fun l2 nl2 => ?_⟩⟩⟩
      have a1 : Same H' (upd H' t1 (.tup [.str "refused", .str "none"])) := same_upd nt1
      have a2 := same_at (o := .lst [.ref t1]) a1 (a1.free nl1)
      have a3 := same_at (o := .lst [.ref t1, .ref t1]) a2 (a2.free nl2)
      have ht1 : (upd (upd H' t1 (.tup [.str "refused", .str "none"])) l1 (.lst [.ref t1])) t1 = some (.tup [.str "refused", .str "none"]) := by rw [upd_ne (ne_of_none upd_same nl1)]; exact upd_same
      have ht1' : (upd (upd (upd H' t1 (.tup [.str "refused", .str "none"])) l1 (.lst [.ref t1])) l2 (.lst [.ref t1, .ref t1])) t1 = some (.tup [.str "refused", .str "none"]) := by rw [upd_ne (ne_of_none ht1 nl2)]; exact ht1
      refine neF (x := "refused") (y := "none") shpR (a3 _ _ hl) (a3 _ _ he1) (a3 _ _ he2) upd_same ht1' ht1' ⟨_, rfl, iteF ?_⟩
      refine ⟨nil_ok, fun d1 n1 => ⟨nil_ok, fun d2 n2 => ⟨d1, d2, [], [], [], rfl, by rw [upd_ne (ne_of_none upd_same n2)]; exact upd_same, upd_same, .nil, fun q hq => by simp at hq, fun q hq => by simp at hq, rfl, by simp, fun H2 p s2 np ep => ?_⟩⟩⟩
      have f1 : frac (wsum (([] : List Int).zip []) (0, 1)).1 (wsum (([] : List Int).zip []) (0, 1)).2 = (0, 1) := by decide +kernel
      rw [f1] at ep
      refine ⟨two_ok, fun p2 np2 => neQ (q := (0, 1)) (by rw [upd_ne (ne_of_none ep np2)]; exact ep) upd_same ⟨_, rfl, iteF ?_⟩⟩
      refine ⟨two_ok, fun c1 m1 => ⟨two_ok, fun c2 m2 => ⟨two_ok, fun c3 m3 => ⟨two_ok, fun c4 m4 => ?_⟩⟩⟩⟩
      have r4 := same_upd (o := .tup [.ref c2, .ref c3]) m4
      have r3 := (same_upd (o := .tup [.int 1, .int 2]) m3).trans r4
      have r2 := (same_upd (o := .tup [.int 1, .int 3]) m2).trans r3
      refine ⟨c1, c4, [0, 2], [.ref c2, .ref c3], [(1, 3), (1, 2)], rfl, r2 _ _ upd_same, upd_same, .cons ⟨c2, rfl, r3 _ _ upd_same⟩ (.cons ⟨c3, rfl, r4 _ _ upd_same⟩ .nil), ?_, ?_, rfl, by simp, fun H3 p3 s3 np3 ep3 => ?_⟩
      · intro q hq
        simp only [List.mem_cons, List.not_mem_nil, or_false] at hq
        rcases hq with rfl | rfl
        · exact ⟨by decide, by decide, by decide⟩
        · exact ⟨by decide, by decide, by decide⟩
      · intro q hq
        simp only [List.mem_cons, List.not_mem_nil, or_false] at hq
        rcases hq with rfl | rfl <;> decide
      · have f2 : frac (wsum (([0, 2] : List Int).zip [(1, 3), (1, 2)]) (0, 1)).1 (wsum (([0, 2] : List Int).zip [(1, 3), (1, 2)]) (0, 1)).2 = (1, 1) := by decide +kernel
        rw [f2] at ep3
        exact ⟨two_ok, fun p4 np4 => neQ (q := (1, 1)) (by rw [upd_ne (ne_of_none ep3 np4)]; exact ep3) upd_same ⟨_, rfl, iteF rfl⟩⟩
    have hM : σ = [some (.ref a), y1, y2, y3, y4, y5, y6, y7, y8, some (.ref l)] := hM
    subst hM
    refine ⟨fun σ H' => σ = [some (.ref a), y1, y2, y3, y4, y5, y6, y7, y8, some (.ref l)], ?_, fun σ H' hM => ?_⟩
    · refine ⟨_, _, rfl, rfl, two_ok, fun d1 n1 => ⟨.ref d1, (0 - 3, 2), rfl, ⟨d1, rfl, upd_same⟩, ⟨by decide, by decide, by decide⟩, _, _, rfl, rfl, rfl, _, rfl, iteNS (by decide +kernel) ?_⟩⟩
      refine ⟨_, _, rfl, rfl, two_ok, fun d1 n1 => ⟨.ref d1, (0 - 3, 2), rfl, ⟨d1, rfl, upd_same⟩, ⟨by decide, by decide, by decide⟩, _, _, rfl, rfl, rfl, _, rfl, iteNS (by decide +kernel) ?_⟩⟩
      refine ⟨two_ok, fun d1 n1 => ⟨.ref d1, (4, 1), rfl, ⟨d1, rfl, upd_same⟩, ⟨by decide, by decide, by decide⟩, rfl, _, rfl, iteNS (by decide +kernel) ?_⟩⟩
      exact ⟨_, _, rfl, rfl, two_ok, fun d1 n1 => ⟨.ref d1, (0 - 4, 1), rfl, ⟨d1, rfl, upd_same⟩, ⟨by decide, by decide, by decide⟩, _, _, rfl, rfl, rfl, _, rfl, iteNS (by decide +kernel) rfl⟩⟩
    · have hM : σ = [some (.ref a), y1, y2, y3, y4, y5, y6, y7, y8, some (.ref l)] := hM
      subst hM
      refine ⟨two_ok, fun d1 n1 => ⟨.ref d1, _, rfl, .nums (q := (0, 2)) upd_same (big (by decide)) (big (by decide)), _, _, rfl, rfl, true, by rfl, iteT ?_⟩⟩
      refine ⟨two_ok, fun d2 n2 => ⟨.ref d2, _, rfl, .nums (q := (0, 1)) upd_same (big (by decide)) (big (by decide)), _, _, rfl, rfl, true, by rfl, iteT ?_⟩⟩
      refine ⟨_, _, rfl, rfl, 6, 0 - 4, rfl, big (by decide), fun _ p np => ⟨_, _, rfl, rfl, two_ok, fun p2 np2 => ?_⟩, fun e => absurd e (by decide)⟩
      have f3 : frac 6 (0 - 4) = (0 - 3, 2) := by decide +kernel
      exact eqQ (q := (0 - 3, 2)) (by rw [upd_ne (ne_of_none upd_same np2)]; show upd _ _ _ _ = _; rw [upd_same, f3]) upd_same (k _)
end
end M02

namespace M02
open PySem PySem.W PySem.Calls PyProof.Rows
open L2 (FnScope defArgs defBody defScope FunD Fun Binds OexC XfC xfB xfB_ok FnOk CX0 Sp)
abbrev RR : OpenRow := OpenLaw.row PySem.Challenge.rw_paperbest_k02_whole_fractions
def loose1 : List PySem.Str := ["__name__", "TaskError", "InvalidNumber", "Refused", "is_whole", "fraction_of", "whole", "is_fraction", "added", "taken", "timed", "parted"]
def loose2 : List PySem.Str := ["is_less", "least_of", "greatest_of", "floor_of", "ceiling_of", "weighed", "_law_box", "_law_take", "_law_pick", "_law_common", "_law_low", "_law_is_integer"]
def loose3 : List PySem.Str := ["_law_is_fraction", "_law_fraction", "_law_truth", "_law_equals", "_law_refused", "_law_pair_right", "_law_round_right", "_law_some_right", "_law_near_right", "_law_odd"]
def loose : List PySem.Str := loose1 ++ loose2 ++ loose3
def d_is_whole : He.DefD := ⟨("is_whole", none), "is_whole", "is_whole", defArgs s_is_whole, defBody s_is_whole, defScope s_is_whole, [], []⟩
def d_fraction_of : He.DefD := ⟨("fraction_of", none), "fraction_of", "fraction_of", defArgs s_fraction_of, defBody s_fraction_of, defScope s_fraction_of, [], []⟩
def d_whole : He.DefD := ⟨("whole", none), "whole", "whole", defArgs s_whole, defBody s_whole, defScope s_whole, [], []⟩
def d_is_fraction : He.DefD := ⟨("is_fraction", none), "is_fraction", "is_fraction", defArgs s_is_fraction, defBody s_is_fraction, defScope s_is_fraction, [], []⟩
def d_added : He.DefD := ⟨("added", none), "added", "added", defArgs s_added, defBody s_added, defScope s_added, [], []⟩
def d_taken : He.DefD := ⟨("taken", none), "taken", "taken", defArgs s_taken, defBody s_taken, defScope s_taken, [], []⟩
def d_timed : He.DefD := ⟨("timed", none), "timed", "timed", defArgs s_timed, defBody s_timed, defScope s_timed, [], []⟩
def d_parted : He.DefD := ⟨("parted", none), "parted", "parted", defArgs s_parted, defBody s_parted, defScope s_parted, [], []⟩
def d_is_less : He.DefD := ⟨("is_less", none), "is_less", "is_less", defArgs s_is_less, defBody s_is_less, defScope s_is_less, [], []⟩
def d_least_of : He.DefD := ⟨("least_of", none), "least_of", "least_of", defArgs s_least_of, defBody s_least_of, defScope s_least_of, [], []⟩
def d_greatest_of : He.DefD := ⟨("greatest_of", none), "greatest_of", "greatest_of", defArgs s_greatest_of, defBody s_greatest_of, defScope s_greatest_of, [], []⟩
def d_floor_of : He.DefD := ⟨("floor_of", none), "floor_of", "floor_of", defArgs s_floor_of, defBody s_floor_of, defScope s_floor_of, [], []⟩
def d_ceiling_of : He.DefD := ⟨("ceiling_of", none), "ceiling_of", "ceiling_of", defArgs s_ceiling_of, defBody s_ceiling_of, defScope s_ceiling_of, [], []⟩
def d_weighed : He.DefD := ⟨("weighed", none), "weighed", "weighed", defArgs s_weighed, defBody s_weighed, defScope s_weighed, [], []⟩
def d_Lbox : He.DefD := ⟨("_law_box", none), "_law_box", "_law_box", defArgs s_Lbox, defBody s_Lbox, defScope s_Lbox, [], []⟩
def d_Ltake : He.DefD := ⟨("_law_take", none), "_law_take", "_law_take", defArgs s_Ltake, defBody s_Ltake, defScope s_Ltake, [], []⟩
def d_Lpick : He.DefD := ⟨("_law_pick", none), "_law_pick", "_law_pick", defArgs s_Lpick, defBody s_Lpick, defScope s_Lpick, [], []⟩
def d_Lcommon : He.DefD := ⟨("_law_common", none), "_law_common", "_law_common", defArgs s_Lcommon, defBody s_Lcommon, defScope s_Lcommon, [], []⟩
def d_Llow : He.DefD := ⟨("_law_low", none), "_law_low", "_law_low", defArgs s_Llow, defBody s_Llow, defScope s_Llow, [], []⟩
def d_Lis_integer : He.DefD := ⟨("_law_is_integer", none), "_law_is_integer", "_law_is_integer", defArgs s_Lis_integer, defBody s_Lis_integer, defScope s_Lis_integer, [], []⟩
def d_Lis_fraction : He.DefD := ⟨("_law_is_fraction", none), "_law_is_fraction", "_law_is_fraction", defArgs s_Lis_fraction, defBody s_Lis_fraction, defScope s_Lis_fraction, [], []⟩
def d_Lfraction : He.DefD := ⟨("_law_fraction", none), "_law_fraction", "_law_fraction", defArgs s_Lfraction, defBody s_Lfraction, defScope s_Lfraction, [], []⟩
def d_Ltruth : He.DefD := ⟨("_law_truth", none), "_law_truth", "_law_truth", defArgs s_Ltruth, defBody s_Ltruth, defScope s_Ltruth, [], []⟩
def d_Lequals : He.DefD := ⟨("_law_equals", none), "_law_equals", "_law_equals", defArgs s_Lequals, defBody s_Lequals, defScope s_Lequals, [], []⟩
def d_Lrefused : He.DefD := ⟨("_law_refused", none), "_law_refused", "_law_refused", defArgs s_Lrefused, defBody s_Lrefused, defScope s_Lrefused, [], []⟩
def d_Lpair_right : He.DefD := ⟨("_law_pair_right", none), "_law_pair_right", "_law_pair_right", defArgs s_Lpair_right, defBody s_Lpair_right, defScope s_Lpair_right, [], []⟩
def d_Lround_right : He.DefD := ⟨("_law_round_right", none), "_law_round_right", "_law_round_right", defArgs s_Lround_right, defBody s_Lround_right, defScope s_Lround_right, [], []⟩
def d_Lsome_right : He.DefD := ⟨("_law_some_right", none), "_law_some_right", "_law_some_right", defArgs s_Lsome_right, defBody s_Lsome_right, defScope s_Lsome_right, [], []⟩
def d_Lnear_right : He.DefD := ⟨("_law_near_right", none), "_law_near_right", "_law_near_right", defArgs s_Lnear_right, defBody s_Lnear_right, defScope s_Lnear_right, [], []⟩
def d_Lodd : He.DefD := ⟨("_law_odd", none), "_law_odd", "_law_odd", defArgs s_Lodd, defBody s_Lodd, defScope s_Lodd, [], []⟩
def d_law : He.DefD := ⟨("law", none), "law", "law", defArgs s_law, defBody s_law, defScope s_law, [], []⟩
def d_iN : He.DefD := ⟨("InvalidNumber", some "__init__"), "__init__", "InvalidNumber.__init__", defArgs s_iN, defBody s_iN, defScope s_iN, [], []⟩
def d_iR : He.DefD := ⟨("Refused", some "__init__"), "__init__", "Refused.__init__", defArgs s_iR, defBody s_iR, defScope s_iR, [], []⟩
def fnL0 : List He.DefD := [d_is_whole, d_fraction_of, d_whole, d_is_fraction, d_added, d_taken, d_timed, d_parted, d_is_less, d_least_of]
def fnL1 : List He.DefD := [d_greatest_of, d_floor_of, d_ceiling_of, d_weighed, d_Lbox, d_Ltake, d_Lpick, d_Lcommon, d_Llow, d_Lis_integer]
def fnL2 : List He.DefD := [d_Lis_fraction, d_Lfraction, d_Ltruth, d_Lequals, d_Lrefused, d_Lpair_right, d_Lround_right, d_Lsome_right, d_Lnear_right, d_Lodd]
def fnL3 : List He.DefD := [d_law, d_iN, d_iR]
def fnL : List He.DefD := fnL0 ++ fnL1 ++ fnL2 ++ fnL3
def faL0 : List He.Fa := [.glo "is_whole", .glo "fraction_of", .glo "whole", .glo "is_fraction", .glo "added", .glo "taken", .glo "timed", .glo "parted", .glo "is_less", .glo "least_of"]
def faL1 : List He.Fa := [.glo "greatest_of", .glo "floor_of", .glo "ceiling_of", .glo "weighed", .glo "_law_box", .glo "_law_take", .glo "_law_pick", .glo "_law_common", .glo "_law_low", .glo "_law_is_integer"]
def faL2 : List He.Fa := [.glo "_law_is_fraction", .glo "_law_fraction", .glo "_law_truth", .glo "_law_equals", .glo "_law_refused", .glo "_law_pair_right", .glo "_law_round_right", .glo "_law_some_right", .glo "_law_near_right", .glo "_law_odd"]
def faL3 : List He.Fa := [.glo "law", .glo "InvalidNumber", .glo "Refused", .free "len", .free "range", .free "int", .free "abs", .free "all", .free "tuple", .free "bool"]
def faL4 : List He.Fa := [.free "zip", .free "isinstance", .exm "InvalidNumber" "InvalidNumber" true, .exm "Refused" "InvalidNumber" false, .exm "Refused" "Refused" true]
def faL : List He.Fa := faL0 ++ faL1 ++ faL2 ++ faL3 ++ faL4
abbrev pD : He.Defn := ("_law_pair_right", none)
abbrev lD : He.Defn := ("law", none)
def tfL : List He.Defn := [pD, lD]
/-- an own error's class -/
def oexB (K : Frag) (C : Addr) : Bool := (match K.lookup C with
  | some ⟨.type t, _, .cls cd, sl⟩ => decide (t = "type") && (match cd.mro, sl.toList with
    | .ref C' :: bm, [_, _, _, _, some (.builtin n), _] => decide (C' = C) && (decide (n = "ValueError.__new__") && (!cd.hasDel && (cd.hasDict && HandSPX.refsVE bm)))
    | _, _ => false)
  | _ => false) && (He.eqO (findIn K (.ref C) "__setattr__") (some (some (.builtin "object.__setattr__"))) && (decide (subIn K (.ref C) (.type "BaseException") = some true) && (decide (typeIn K (.ref C) = some (.type "type")) && keepIn K (.ref C))))
theorem oexB_ok {K : Frag} {C : Addr} (h : oexB K C = true) : OexC K C := by
  obtain ⟨h1, h⟩ := He.ba h
  obtain ⟨h2, h⟩ := He.ba h
  obtain ⟨h3, h⟩ := He.ba h
  obtain ⟨h4, h5⟩ := He.ba h
  refine ⟨?_, He.eqO_ok h2, of_decide_eq_true h3, of_decide_eq_true h4, h5⟩
  clear h2 h3 h4 h5 h
  cases q : K.lookup C with
  | none => rw [q] at h1; cases h1
  | some o =>
    obtain ⟨oc, dd, dt, sl⟩ := o
    rw [q] at h1
    cases oc with
    | type t =>
      cases dt with
      | cls cd =>
        obtain ⟨nm, bases, mro, ns, qn, hd, sn, sb, ab, col, del⟩ := cd
        obtain ⟨a1, a2⟩ := He.ba h1
        obtain rfl := of_decide_eq_true a1
        clear h1 a1
        cases mro with
        | nil => cases a2
        | cons m bm =>
          cases m with
          | ref C' =>
            obtain ⟨sll⟩ := sl
            match sll, a2 with
            | [k0, k1, k2, k3, some (.builtin n), k5], a2 =>
              obtain ⟨b1, b⟩ := He.ba a2
              obtain ⟨b2, b⟩ := He.ba b
              obtain ⟨b3, b⟩ := He.ba b
              obtain ⟨b4, b5⟩ := He.ba b
              obtain rfl := of_decide_eq_true b1
              obtain rfl := of_decide_eq_true b2
              have e3 : del = false := by simpa using b3
              have e4 : hd = true := b4
              subst e3 e4
              exact ⟨nm, qn, ns, bases, bm, sn, sb, ab, col, dd, k0, k1, k2, k3, k5, rfl, b5⟩
          | _ => cases a2
      | _ => cases h1
    | _ => cases dt <;> cases h1
def clsB (K : Frag) (x : PySem.Str) : Bool := oexB K (He.ga K x) && (He.eqO (findIn K (.ref (He.ga K x)) "__init__") (some (some (.ref (He.ma K (He.ga K x) "__init__")))) && (decide (typeIn K (.ref (He.ma K (He.ga K x) "__init__")) = some (.type "function")) && (xfB K (He.ga K x) && He.eqO (findIn K (.ref (He.ga K x)) "word") (some none))))
theorem clsB_ok {K : Frag} {mg : PySem.Str → Option Value} {x : PySem.Str} (h : clsB K x = true) (g : mg x = some (.ref (He.ga K x))) : ExT K mg x (He.ga K x) (He.ma K (He.ga K x) "__init__") := by
  obtain ⟨h1, h⟩ := He.ba h
  obtain ⟨h2, h⟩ := He.ba h
  obtain ⟨h3, h⟩ := He.ba h
  obtain ⟨h4, h5⟩ := He.ba h
  exact ⟨oexB_ok h1, He.eqO_ok h2, of_decide_eq_true h3, g, xfB_ok h4, He.eqO_ok h5⟩
def isEB (K : Frag) (C : Addr) : Bool := (clsIn K C).isSome && (He.eqO (findIn K (.ref C) "__getattribute__") (some (some (.builtin "BaseException.__getattribute__"))) && (He.eqO (findIn K (.ref C) "__getattr__") (some none) && (decide (subIn K (.ref C) (.type "BaseException") = some true) && (He.eqO (findIn K (.ref C) "__class__") (some (some (.builtin "object.__class__"))) &&
  (He.eqO (specialIn K (.builtin "object.__class__") "__get__") (some (some (.builtin "getset_descriptor.__get__"))) && (decide (takesIn K (.builtin "object.__class__") = some true) && (decide (mroIn K C (.type "object") = some true) && (decide (kitOne K (.ref C) (.type "tuple") = some false) && (decide (kitOne K (.ref C) (.type "int") = some false) && decide (kitOne K (.ref C) (.type "bool") = some false))))))))))
theorem isEB_ok {K : Frag} {C : Addr} (h : isEB K C = true) : OddT K C := by
  obtain ⟨h1, h⟩ := He.ba h
  obtain ⟨h2, h⟩ := He.ba h
  obtain ⟨h3, h⟩ := He.ba h
  obtain ⟨h4, h⟩ := He.ba h
  obtain ⟨h5, h⟩ := He.ba h
  obtain ⟨h6, h⟩ := He.ba h
  obtain ⟨h7, h⟩ := He.ba h
  obtain ⟨h8, h⟩ := He.ba h
  obtain ⟨h9, h⟩ := He.ba h
  obtain ⟨h10, h11⟩ := He.ba h
  exact ⟨⟨h1, He.eqO_ok h2, He.eqO_ok h3, of_decide_eq_true h4, He.eqO_ok h5, He.eqO_ok h6, of_decide_eq_true h7, of_decide_eq_true h8⟩, of_decide_eq_true h9, of_decide_eq_true h10, of_decide_eq_true h11⟩
def exB (K : Frag) : Bool := clsB K "InvalidNumber" && (clsB K "Refused" && (isEB K (He.ga K "Refused") && (He.eqO (nsIn K mainGlobals "gcd") (some (some (.builtin "math.gcd"))) && decide ((He.cT K pD).2 ≠ (He.cT K lD).2))))
abbrev hk : Hook := He.hookX 5 faL fnL [] tfL exB
def ob (s : SharedT) : He.AlX := He.obsX 5 faL fnL [] tfL exB (HandSHeadRun.getT s)
theorem ob_eq (s : SharedT) : ob s = hk.obs s.abs := He.obsX_eq (HandSHeadRun.getT_eq s)
theorem run (w : World) : HandSHeadRun.RunEqI RR (view RR.prog [0, 37]) hk ob 8000 loose w := by
  unfold HandSHeadRun.RunEqI
  kernel_rfl
section
variable {K : Frag}
theorem funOf {x : PySem.Str} {st : Stmt} {f : Addr} {fd : FuncData} {qual : PySem.Str} (F : FunD K x qual (defArgs st) (defBody st) (defScope st) [] [] f fd) : Fun K x qual st f fd := by
  obtain ⟨oc, od, dV, kV, doc, pm, an, cdv, ct, osl, e, lk, hc, hd, hk⟩ := F.ex
  rcases hd with ⟨_, h⟩ | ⟨h, _⟩
  · subst h
    exact ⟨⟨oc, od, kV, doc, pm, an, cdv, ct, osl, e, lk, hc⟩, F.kp⟩
  · exact absurd rfl h
theorem funCOf {x : PySem.Str} {st : Stmt} {p : He.Defn} {fd : FuncData} {qual : PySem.Str} (F : Fun K x qual st (He.fAd K p) fd) : FunC K x qual st (He.fAd K p) fd (He.cT K p).1 := by
  obtain ⟨oc, od, kV, doc, pm, an, cdv, ct, osl, e, lk, hc⟩ := F.ex
  obtain ⟨c, rfl⟩ := He.codeIn_ref hc
  have e2 : He.codeOf K p = c := He.codeOf_eq lk (by rw [e])
  have e3 : (He.cT K p).1 = c := e2
  rw [e3]
  exact ⟨⟨oc, od, kV, doc, pm, an, ct, osl, e, lk, hc⟩⟩
end

open C8 (Cal)

theorem sw2 {α : Type} {ws : List α} (h : (sw ws).length = 2) : ∃ a b, ws = [a, b] := by
  match ws, h with
  | [], h => cases h
  | [_], h => cases h
  | [a, b], _ => exact ⟨a, b, rfl⟩
  | _ :: _ :: _ :: _, h => cases h
theorem vals_sw : ∀ {zs : List L2.V} {ws : List Value}, L2.Vals zs ws → L2.Vals (sw zs) (sw ws)
  | _, _, .nil => .nil
  | _, _, .cons _ .nil => .nil
  | _, _, .cons a (.cons b .nil) => .cons b (.cons a .nil)
  | _, _, .cons _ (.cons _ (.cons _ _)) => .nil
section
variable {P : Program} {w : World} {K : Frag} {mg : PySem.Str → Option Value} {base : Heap} {x p1 p2 : PySem.Str} {st : Stmt} {f : Addr} {fd : FuncData} {k : Nat} {sp : Sp} {CX : L2.CXT}
theorem mkK2 (F : Fun K x x st f fd) (ok : FnOk P w K mg base CX k f fd [p1, p2] sp) (hC : CX = CX0 ∨ CX = L2.CX P w) (g : mg x = some (.ref f))
    (h : ∀ (kV doc pm : Value) (an : Option Addr) (cdv ct : Value) (a b : Value), bindArgs (fnOf x x (defArgs st) (defBody st) (defScope st) .none kV doc pm an cdv ct) ⟨[], [p2, p1].zip [a, b]⟩ = pure ([p1, p2].zip [b, a])) : CalK P w K mg base k x [p2, p1] sw sp := by
  have kp := F.kp
  obtain ⟨oc, od, kV, doc, pm, an, cdv, ct, osl, rfl, lk, hc⟩ := F.ex
  refine ⟨⟨f, _, [p1, p2], sw, CX, hC, ok, g, kp, fun s ws hl => ?_, fun _ _ r => vals_sw r⟩⟩
  obtain ⟨a, b, rfl⟩ := sw2 hl
  exact .of_eq (h kV doc pm an cdv ct a b)
theorem mkK1 (F : Fun K x x st f fd) (ok : FnOk P w K mg base CX k f fd [p1] sp) (hC : CX = CX0 ∨ CX = L2.CX P w) (g : mg x = some (.ref f))
    (h : ∀ (kV doc pm : Value) (an : Option Addr) (cdv ct : Value) (a : Value), bindArgs (fnOf x x (defArgs st) (defBody st) (defScope st) .none kV doc pm an cdv ct) ⟨[], [p1].zip [a]⟩ = pure ([p1].zip [a])) : CalK P w K mg base k x [p1] id sp := by
  have kp := F.kp
  obtain ⟨oc, od, kV, doc, pm, an, cdv, ct, osl, rfl, lk, hc⟩ := F.ex
  refine ⟨⟨f, _, [p1], id, CX, hC, ok, g, kp, fun s ws hl => ?_, fun _ _ r => r⟩⟩
  match ws, hl with
  | [a], _ => exact .of_eq (h kV doc pm an cdv ct a)
end
theorem facts {l : OpenLaw} {w : World} {K : Frag} {h : Heap} {mg : PySem.Str → Option Value} {fa : Addr} (X : K.In h) (G : h.Ns mainGlobals mg) (hfa : mg ("law" : PySem.Str) = some (.ref fa)) (c : He.SaysX faL fnL [] tfL exB w h K) : LamX.LawAtS l w K CX0 10 63 "script" mg fa h := by
  have cd := c.t.d
  obtain ⟨x1, x⟩ := He.ba c.more
  obtain ⟨x2, x⟩ := He.ba x
  obtain ⟨x3, x⟩ := He.ba x
  obtain ⟨x4, x5⟩ := He.ba x
  have x5 := of_decide_eq_true x5
  have g_is_whole : mg "is_whole" = some (.ref (He.ga K "is_whole")) := He.glo_ok X G (cd.fact 0 (f := .glo "is_whole") rfl)
  obtain ⟨fd_is_whole, W_is_whole⟩ := cd.def_ 0 (d := d_is_whole) rfl
  have F_is_whole : Fun K "is_whole" "is_whole" s_is_whole (He.ga K "is_whole") fd_is_whole := funOf W_is_whole
  have D_is_whole : Df K mg "is_whole" s_is_whole ["value"] := ⟨_, _, F_is_whole, g_is_whole, F_is_whole.binds fun _ _ _ _ _ _ us hl => match us, hl with | [_], _ => rfl⟩
  have g_fraction_of : mg "fraction_of" = some (.ref (He.ga K "fraction_of")) := He.glo_ok X G (cd.fact 1 (f := .glo "fraction_of") rfl)
  obtain ⟨fd_fraction_of, W_fraction_of⟩ := cd.def_ 1 (d := d_fraction_of) rfl
  have F_fraction_of : Fun K "fraction_of" "fraction_of" s_fraction_of (He.ga K "fraction_of") fd_fraction_of := funOf W_fraction_of
  have D_fraction_of : Df K mg "fraction_of" s_fraction_of ["top", "bottom"] := ⟨_, _, F_fraction_of, g_fraction_of, F_fraction_of.binds fun _ _ _ _ _ _ us hl => match us, hl with | [_, _], _ => rfl⟩
  have g_whole : mg "whole" = some (.ref (He.ga K "whole")) := He.glo_ok X G (cd.fact 2 (f := .glo "whole") rfl)
  obtain ⟨fd_whole, W_whole⟩ := cd.def_ 2 (d := d_whole) rfl
  have F_whole : Fun K "whole" "whole" s_whole (He.ga K "whole") fd_whole := funOf W_whole
  have D_whole : Df K mg "whole" s_whole ["number"] := ⟨_, _, F_whole, g_whole, F_whole.binds fun _ _ _ _ _ _ us hl => match us, hl with | [_], _ => rfl⟩
  have g_is_fraction : mg "is_fraction" = some (.ref (He.ga K "is_fraction")) := He.glo_ok X G (cd.fact 3 (f := .glo "is_fraction") rfl)
  obtain ⟨fd_is_fraction, W_is_fraction⟩ := cd.def_ 3 (d := d_is_fraction) rfl
  have F_is_fraction : Fun K "is_fraction" "is_fraction" s_is_fraction (He.ga K "is_fraction") fd_is_fraction := funOf W_is_fraction
  have D_is_fraction : Df K mg "is_fraction" s_is_fraction ["value"] := ⟨_, _, F_is_fraction, g_is_fraction, F_is_fraction.binds fun _ _ _ _ _ _ us hl => match us, hl with | [_], _ => rfl⟩
  have g_added : mg "added" = some (.ref (He.ga K "added")) := He.glo_ok X G (cd.fact 4 (f := .glo "added") rfl)
  obtain ⟨fd_added, W_added⟩ := cd.def_ 4 (d := d_added) rfl
  have F_added : Fun K "added" "added" s_added (He.ga K "added") fd_added := funOf W_added
  have D_added : Df K mg "added" s_added ["one", "other"] := ⟨_, _, F_added, g_added, F_added.binds fun _ _ _ _ _ _ us hl => match us, hl with | [_, _], _ => rfl⟩
  have g_taken : mg "taken" = some (.ref (He.ga K "taken")) := He.glo_ok X G (cd.fact 5 (f := .glo "taken") rfl)
  obtain ⟨fd_taken, W_taken⟩ := cd.def_ 5 (d := d_taken) rfl
  have F_taken : Fun K "taken" "taken" s_taken (He.ga K "taken") fd_taken := funOf W_taken
  have D_taken : Df K mg "taken" s_taken ["one", "other"] := ⟨_, _, F_taken, g_taken, F_taken.binds fun _ _ _ _ _ _ us hl => match us, hl with | [_, _], _ => rfl⟩
  have g_timed : mg "timed" = some (.ref (He.ga K "timed")) := He.glo_ok X G (cd.fact 6 (f := .glo "timed") rfl)
  obtain ⟨fd_timed, W_timed⟩ := cd.def_ 6 (d := d_timed) rfl
  have F_timed : Fun K "timed" "timed" s_timed (He.ga K "timed") fd_timed := funOf W_timed
  have D_timed : Df K mg "timed" s_timed ["one", "other"] := ⟨_, _, F_timed, g_timed, F_timed.binds fun _ _ _ _ _ _ us hl => match us, hl with | [_, _], _ => rfl⟩
  have g_parted : mg "parted" = some (.ref (He.ga K "parted")) := He.glo_ok X G (cd.fact 7 (f := .glo "parted") rfl)
  obtain ⟨fd_parted, W_parted⟩ := cd.def_ 7 (d := d_parted) rfl
  have F_parted : Fun K "parted" "parted" s_parted (He.ga K "parted") fd_parted := funOf W_parted
  have D_parted : Df K mg "parted" s_parted ["one", "other"] := ⟨_, _, F_parted, g_parted, F_parted.binds fun _ _ _ _ _ _ us hl => match us, hl with | [_, _], _ => rfl⟩
  have g_is_less : mg "is_less" = some (.ref (He.ga K "is_less")) := He.glo_ok X G (cd.fact 8 (f := .glo "is_less") rfl)
  obtain ⟨fd_is_less, W_is_less⟩ := cd.def_ 8 (d := d_is_less) rfl
  have F_is_less : Fun K "is_less" "is_less" s_is_less (He.ga K "is_less") fd_is_less := funOf W_is_less
  have D_is_less : Df K mg "is_less" s_is_less ["one", "other"] := ⟨_, _, F_is_less, g_is_less, F_is_less.binds fun _ _ _ _ _ _ us hl => match us, hl with | [_, _], _ => rfl⟩
  have g_least_of : mg "least_of" = some (.ref (He.ga K "least_of")) := He.glo_ok X G (cd.fact 9 (f := .glo "least_of") rfl)
  obtain ⟨fd_least_of, W_least_of⟩ := cd.def_ 9 (d := d_least_of) rfl
  have F_least_of : Fun K "least_of" "least_of" s_least_of (He.ga K "least_of") fd_least_of := funOf W_least_of
  have D_least_of : Df K mg "least_of" s_least_of ["some"] := ⟨_, _, F_least_of, g_least_of, F_least_of.binds fun _ _ _ _ _ _ us hl => match us, hl with | [_], _ => rfl⟩
  have g_greatest_of : mg "greatest_of" = some (.ref (He.ga K "greatest_of")) := He.glo_ok X G (cd.fact 10 (f := .glo "greatest_of") rfl)
  obtain ⟨fd_greatest_of, W_greatest_of⟩ := cd.def_ 10 (d := d_greatest_of) rfl
  have F_greatest_of : Fun K "greatest_of" "greatest_of" s_greatest_of (He.ga K "greatest_of") fd_greatest_of := funOf W_greatest_of
  have D_greatest_of : Df K mg "greatest_of" s_greatest_of ["some"] := ⟨_, _, F_greatest_of, g_greatest_of, F_greatest_of.binds fun _ _ _ _ _ _ us hl => match us, hl with | [_], _ => rfl⟩
  have g_floor_of : mg "floor_of" = some (.ref (He.ga K "floor_of")) := He.glo_ok X G (cd.fact 11 (f := .glo "floor_of") rfl)
  obtain ⟨fd_floor_of, W_floor_of⟩ := cd.def_ 11 (d := d_floor_of) rfl
  have F_floor_of : Fun K "floor_of" "floor_of" s_floor_of (He.ga K "floor_of") fd_floor_of := funOf W_floor_of
  have D_floor_of : Df K mg "floor_of" s_floor_of ["value"] := ⟨_, _, F_floor_of, g_floor_of, F_floor_of.binds fun _ _ _ _ _ _ us hl => match us, hl with | [_], _ => rfl⟩
  have g_ceiling_of : mg "ceiling_of" = some (.ref (He.ga K "ceiling_of")) := He.glo_ok X G (cd.fact 12 (f := .glo "ceiling_of") rfl)
  obtain ⟨fd_ceiling_of, W_ceiling_of⟩ := cd.def_ 12 (d := d_ceiling_of) rfl
  have F_ceiling_of : Fun K "ceiling_of" "ceiling_of" s_ceiling_of (He.ga K "ceiling_of") fd_ceiling_of := funOf W_ceiling_of
  have D_ceiling_of : Df K mg "ceiling_of" s_ceiling_of ["value"] := ⟨_, _, F_ceiling_of, g_ceiling_of, F_ceiling_of.binds fun _ _ _ _ _ _ us hl => match us, hl with | [_], _ => rfl⟩
  have g_weighed : mg "weighed" = some (.ref (He.ga K "weighed")) := He.glo_ok X G (cd.fact 13 (f := .glo "weighed") rfl)
  obtain ⟨fd_weighed, W_weighed⟩ := cd.def_ 13 (d := d_weighed) rfl
  have F_weighed : Fun K "weighed" "weighed" s_weighed (He.ga K "weighed") fd_weighed := funOf W_weighed
  have D_weighed : Df K mg "weighed" s_weighed ["coefficients", "point"] := ⟨_, _, F_weighed, g_weighed, F_weighed.binds fun _ _ _ _ _ _ us hl => match us, hl with | [_, _], _ => rfl⟩
  have g_Lbox : mg "_law_box" = some (.ref (He.ga K "_law_box")) := He.glo_ok X G (cd.fact 14 (f := .glo "_law_box") rfl)
  obtain ⟨fd_Lbox, W_Lbox⟩ := cd.def_ 14 (d := d_Lbox) rfl
  have F_Lbox : Fun K "_law_box" "_law_box" s_Lbox (He.ga K "_law_box") fd_Lbox := funOf W_Lbox
  have D_Lbox : Df K mg "_law_box" s_Lbox ["script", "k"] := ⟨_, _, F_Lbox, g_Lbox, F_Lbox.binds fun _ _ _ _ _ _ us hl => match us, hl with | [_, _], _ => rfl⟩
  have g_Ltake : mg "_law_take" = some (.ref (He.ga K "_law_take")) := He.glo_ok X G (cd.fact 15 (f := .glo "_law_take") rfl)
  obtain ⟨fd_Ltake, W_Ltake⟩ := cd.def_ 15 (d := d_Ltake) rfl
  have F_Ltake : Fun K "_law_take" "_law_take" s_Ltake (He.ga K "_law_take") fd_Ltake := funOf W_Ltake
  have D_Ltake : Df K mg "_law_take" s_Ltake ["box", "many"] := ⟨_, _, F_Ltake, g_Ltake, F_Ltake.binds fun _ _ _ _ _ _ us hl => match us, hl with | [_, _], _ => rfl⟩
  have g_Lpick : mg "_law_pick" = some (.ref (He.ga K "_law_pick")) := He.glo_ok X G (cd.fact 16 (f := .glo "_law_pick") rfl)
  obtain ⟨fd_Lpick, W_Lpick⟩ := cd.def_ 16 (d := d_Lpick) rfl
  have F_Lpick : Fun K "_law_pick" "_law_pick" s_Lpick (He.ga K "_law_pick") fd_Lpick := funOf W_Lpick
  have D_Lpick : Df K mg "_law_pick" s_Lpick ["box", "some"] := ⟨_, _, F_Lpick, g_Lpick, F_Lpick.binds fun _ _ _ _ _ _ us hl => match us, hl with | [_, _], _ => rfl⟩
  have g_Lcommon : mg "_law_common" = some (.ref (He.ga K "_law_common")) := He.glo_ok X G (cd.fact 17 (f := .glo "_law_common") rfl)
  obtain ⟨fd_Lcommon, W_Lcommon⟩ := cd.def_ 17 (d := d_Lcommon) rfl
  have F_Lcommon : Fun K "_law_common" "_law_common" s_Lcommon (He.ga K "_law_common") fd_Lcommon := funOf W_Lcommon
  have D_Lcommon : Df K mg "_law_common" s_Lcommon ["numbers"] := ⟨_, _, F_Lcommon, g_Lcommon, F_Lcommon.binds fun _ _ _ _ _ _ us hl => match us, hl with | [_], _ => rfl⟩
  have g_Llow : mg "_law_low" = some (.ref (He.ga K "_law_low")) := He.glo_ok X G (cd.fact 18 (f := .glo "_law_low") rfl)
  obtain ⟨fd_Llow, W_Llow⟩ := cd.def_ 18 (d := d_Llow) rfl
  have F_Llow : Fun K "_law_low" "_law_low" s_Llow (He.ga K "_law_low") fd_Llow := funOf W_Llow
  have D_Llow : Df K mg "_law_low" s_Llow ["top", "bottom"] := ⟨_, _, F_Llow, g_Llow, F_Llow.binds fun _ _ _ _ _ _ us hl => match us, hl with | [_, _], _ => rfl⟩
  have g_Lis_integer : mg "_law_is_integer" = some (.ref (He.ga K "_law_is_integer")) := He.glo_ok X G (cd.fact 19 (f := .glo "_law_is_integer") rfl)
  obtain ⟨fd_Lis_integer, W_Lis_integer⟩ := cd.def_ 19 (d := d_Lis_integer) rfl
  have F_Lis_integer : Fun K "_law_is_integer" "_law_is_integer" s_Lis_integer (He.ga K "_law_is_integer") fd_Lis_integer := funOf W_Lis_integer
  have D_Lis_integer : Df K mg "_law_is_integer" s_Lis_integer ["value"] := ⟨_, _, F_Lis_integer, g_Lis_integer, F_Lis_integer.binds fun _ _ _ _ _ _ us hl => match us, hl with | [_], _ => rfl⟩
  have g_Lis_fraction : mg "_law_is_fraction" = some (.ref (He.ga K "_law_is_fraction")) := He.glo_ok X G (cd.fact 20 (f := .glo "_law_is_fraction") rfl)
  obtain ⟨fd_Lis_fraction, W_Lis_fraction⟩ := cd.def_ 20 (d := d_Lis_fraction) rfl
  have F_Lis_fraction : Fun K "_law_is_fraction" "_law_is_fraction" s_Lis_fraction (He.ga K "_law_is_fraction") fd_Lis_fraction := funOf W_Lis_fraction
  have D_Lis_fraction : Df K mg "_law_is_fraction" s_Lis_fraction ["value"] := ⟨_, _, F_Lis_fraction, g_Lis_fraction, F_Lis_fraction.binds fun _ _ _ _ _ _ us hl => match us, hl with | [_], _ => rfl⟩
  have g_Lfraction : mg "_law_fraction" = some (.ref (He.ga K "_law_fraction")) := He.glo_ok X G (cd.fact 21 (f := .glo "_law_fraction") rfl)
  obtain ⟨fd_Lfraction, W_Lfraction⟩ := cd.def_ 21 (d := d_Lfraction) rfl
  have F_Lfraction : Fun K "_law_fraction" "_law_fraction" s_Lfraction (He.ga K "_law_fraction") fd_Lfraction := funOf W_Lfraction
  have D_Lfraction : Df K mg "_law_fraction" s_Lfraction ["box"] := ⟨_, _, F_Lfraction, g_Lfraction, F_Lfraction.binds fun _ _ _ _ _ _ us hl => match us, hl with | [_], _ => rfl⟩
  have g_Ltruth : mg "_law_truth" = some (.ref (He.ga K "_law_truth")) := He.glo_ok X G (cd.fact 22 (f := .glo "_law_truth") rfl)
  obtain ⟨fd_Ltruth, W_Ltruth⟩ := cd.def_ 22 (d := d_Ltruth) rfl
  have F_Ltruth : Fun K "_law_truth" "_law_truth" s_Ltruth (He.ga K "_law_truth") fd_Ltruth := funOf W_Ltruth
  have D_Ltruth : Df K mg "_law_truth" s_Ltruth ["value", "due"] := ⟨_, _, F_Ltruth, g_Ltruth, F_Ltruth.binds fun _ _ _ _ _ _ us hl => match us, hl with | [_, _], _ => rfl⟩
  have g_Lequals : mg "_law_equals" = some (.ref (He.ga K "_law_equals")) := He.glo_ok X G (cd.fact 23 (f := .glo "_law_equals") rfl)
  obtain ⟨fd_Lequals, W_Lequals⟩ := cd.def_ 23 (d := d_Lequals) rfl
  have F_Lequals : Fun K "_law_equals" "_law_equals" s_Lequals (He.ga K "_law_equals") fd_Lequals := funOf W_Lequals
  have D_Lequals : Df K mg "_law_equals" s_Lequals ["value", "top", "bottom"] := ⟨_, _, F_Lequals, g_Lequals, F_Lequals.binds fun _ _ _ _ _ _ us hl => match us, hl with | [_, _, _], _ => rfl⟩
  have g_Lrefused : mg "_law_refused" = some (.ref (He.ga K "_law_refused")) := He.glo_ok X G (cd.fact 24 (f := .glo "_law_refused") rfl)
  obtain ⟨fd_Lrefused, W_Lrefused⟩ := cd.def_ 24 (d := d_Lrefused) rfl
  have F_Lrefused : Fun K "_law_refused" "_law_refused" s_Lrefused (He.ga K "_law_refused") fd_Lrefused := funOf W_Lrefused
  have D_Lrefused : Df K mg "_law_refused" s_Lrefused ["action"] := ⟨_, _, F_Lrefused, g_Lrefused, F_Lrefused.binds fun _ _ _ _ _ _ us hl => match us, hl with | [_], _ => rfl⟩
  have g_Lpair_right : mg "_law_pair_right" = some (.ref (He.ga K "_law_pair_right")) := He.glo_ok X G (cd.fact 25 (f := .glo "_law_pair_right") rfl)
  obtain ⟨fd_Lpair_right, W_Lpair_right⟩ := cd.def_ 25 (d := d_Lpair_right) rfl
  have F_Lpair_right : Fun K "_law_pair_right" "_law_pair_right" s_Lpair_right (He.ga K "_law_pair_right") fd_Lpair_right := funOf W_Lpair_right
  have D_Lpair_right : Df K mg "_law_pair_right" s_Lpair_right ["box", "one", "other"] := ⟨_, _, F_Lpair_right, g_Lpair_right, F_Lpair_right.binds fun _ _ _ _ _ _ us hl => match us, hl with | [_, _, _], _ => rfl⟩
  have g_Lround_right : mg "_law_round_right" = some (.ref (He.ga K "_law_round_right")) := He.glo_ok X G (cd.fact 26 (f := .glo "_law_round_right") rfl)
  obtain ⟨fd_Lround_right, W_Lround_right⟩ := cd.def_ 26 (d := d_Lround_right) rfl
  have F_Lround_right : Fun K "_law_round_right" "_law_round_right" s_Lround_right (He.ga K "_law_round_right") fd_Lround_right := funOf W_Lround_right
  have D_Lround_right : Df K mg "_law_round_right" s_Lround_right ["value"] := ⟨_, _, F_Lround_right, g_Lround_right, F_Lround_right.binds fun _ _ _ _ _ _ us hl => match us, hl with | [_], _ => rfl⟩
  have g_Lsome_right : mg "_law_some_right" = some (.ref (He.ga K "_law_some_right")) := He.glo_ok X G (cd.fact 27 (f := .glo "_law_some_right") rfl)
  obtain ⟨fd_Lsome_right, W_Lsome_right⟩ := cd.def_ 27 (d := d_Lsome_right) rfl
  have F_Lsome_right : Fun K "_law_some_right" "_law_some_right" s_Lsome_right (He.ga K "_law_some_right") fd_Lsome_right := funOf W_Lsome_right
  have D_Lsome_right : Df K mg "_law_some_right" s_Lsome_right ["box", "some"] := ⟨_, _, F_Lsome_right, g_Lsome_right, F_Lsome_right.binds fun _ _ _ _ _ _ us hl => match us, hl with | [_, _], _ => rfl⟩
  have g_Lnear_right : mg "_law_near_right" = some (.ref (He.ga K "_law_near_right")) := He.glo_ok X G (cd.fact 28 (f := .glo "_law_near_right") rfl)
  obtain ⟨fd_Lnear_right, W_Lnear_right⟩ := cd.def_ 28 (d := d_Lnear_right) rfl
  have F_Lnear_right : Fun K "_law_near_right" "_law_near_right" s_Lnear_right (He.ga K "_law_near_right") fd_Lnear_right := funOf W_Lnear_right
  have D_Lnear_right : Df K mg "_law_near_right" s_Lnear_right ["box"] := ⟨_, _, F_Lnear_right, g_Lnear_right, F_Lnear_right.binds fun _ _ _ _ _ _ us hl => match us, hl with | [_], _ => rfl⟩
  have g_Lodd : mg "_law_odd" = some (.ref (He.ga K "_law_odd")) := He.glo_ok X G (cd.fact 29 (f := .glo "_law_odd") rfl)
  obtain ⟨fd_Lodd, W_Lodd⟩ := cd.def_ 29 (d := d_Lodd) rfl
  have F_Lodd : Fun K "_law_odd" "_law_odd" s_Lodd (He.ga K "_law_odd") fd_Lodd := funOf W_Lodd
  have D_Lodd : Df K mg "_law_odd" s_Lodd ["box", "one"] := ⟨_, _, F_Lodd, g_Lodd, F_Lodd.binds fun _ _ _ _ _ _ us hl => match us, hl with | [_, _], _ => rfl⟩
  have g_law : mg "law" = some (.ref (He.ga K "law")) := He.glo_ok X G (cd.fact 30 (f := .glo "law") rfl)
  obtain ⟨fd_law, W_law⟩ := cd.def_ 30 (d := d_law) rfl
  have F_law : Fun K "law" "law" s_law (He.ga K "law") fd_law := funOf W_law
  have g_InvalidNumber : mg "InvalidNumber" = some (.ref (He.ga K "InvalidNumber")) := He.glo_ok X G (cd.fact 31 (f := .glo "InvalidNumber") rfl)
  have g_Refused : mg "Refused" = some (.ref (He.ga K "Refused")) := He.glo_ok X G (cd.fact 32 (f := .glo "Refused") rfl)
  have z_len : mg "len" = none := He.free_ok X G (cd.fact 33 (f := .free "len") rfl)
  have z_range : mg "range" = none := He.free_ok X G (cd.fact 34 (f := .free "range") rfl)
  have z_int : mg "int" = none := He.free_ok X G (cd.fact 35 (f := .free "int") rfl)
  have z_abs : mg "abs" = none := He.free_ok X G (cd.fact 36 (f := .free "abs") rfl)
  have z_all : mg "all" = none := He.free_ok X G (cd.fact 37 (f := .free "all") rfl)
  have z_tuple : mg "tuple" = none := He.free_ok X G (cd.fact 38 (f := .free "tuple") rfl)
  have z_bool : mg "bool" = none := He.free_ok X G (cd.fact 39 (f := .free "bool") rfl)
  have z_zip : mg "zip" = none := He.free_ok X G (cd.fact 40 (f := .free "zip") rfl)
  have z_isinstance : mg "isinstance" = none := He.free_ok X G (cd.fact 41 (f := .free "isinstance") rfl)
  have m0 : exmOne K (.ref (He.ga K "InvalidNumber")) (.ref (He.ga K "InvalidNumber")) = some true := of_decide_eq_true (cd.fact 42 (f := .exm "InvalidNumber" "InvalidNumber" true) rfl)
  have m1 : exmOne K (.ref (He.ga K "Refused")) (.ref (He.ga K "InvalidNumber")) = some false := of_decide_eq_true (cd.fact 43 (f := .exm "Refused" "InvalidNumber" false) rfl)
  have m2 : exmOne K (.ref (He.ga K "Refused")) (.ref (He.ga K "Refused")) = some true := of_decide_eq_true (cd.fact 44 (f := .exm "Refused" "Refused" true) rfl)
  obtain ⟨fd_iN, W_iN⟩ := cd.def_ 31 (d := d_iN) rfl
  have F_iN : Fun K "__init__" "InvalidNumber.__init__" s_iN (He.ma K (He.ga K "InvalidNumber") "__init__") fd_iN := funOf W_iN
  have B_iN : Binds K fd_iN ["self", "word"] [] := F_iN.binds fun _ _ _ _ _ _ us hl => match us, hl with | [_, _], _ => rfl
  obtain ⟨fd_iR, W_iR⟩ := cd.def_ 32 (d := d_iR) rfl
  have F_iR : Fun K "__init__" "Refused.__init__" s_iR (He.ma K (He.ga K "Refused") "__init__") fd_iR := funOf W_iR
  have B_iR : Binds K fd_iR ["self", "word"] [] := F_iR.binds fun _ _ _ _ _ _ us hl => match us, hl with | [_, _], _ => rfl
  have tN := clsB_ok x1 g_InvalidNumber
  have tR := clsB_ok x2 g_Refused
  have O := isEB_ok x3
  have gg : mg "gcd" = some (.builtin "math.gcd") := mg_of X G (He.eqO_ok x4)
  have T : Txt K mg := ⟨z_len, z_range, z_int, z_abs, z_all, z_tuple, z_bool, z_zip, z_isinstance, gg⟩
  have E2 : Ex2 K mg (He.ga K "InvalidNumber") (He.ga K "Refused") := ⟨⟨_, tN⟩, ⟨_, tR⟩, m0, m1, m2⟩
  have FC := funCOf (p := pD) F_Lpair_right
  have FL := funCOf (p := lD) F_law
  have efa : fa = He.ga K "law" := by
    have e := hfa.symm.trans g_law
    cases e
    rfl
  subst efa
  have tfp : pD ∈ tfL := List.mem_cons_self ..
  have tfl : lD ∈ tfL := List.mem_cons_of_mem _ (List.mem_cons_self ..)
  have csm : ∀ p ∈ [He.cT K pD, He.cT K lD], ∃ d ∈ tfL, p = He.cT K d := fun p hp => by
    simp only [List.mem_cons, List.not_mem_nil, or_false] at hp
    rcases hp with rfl | rfl
    · exact ⟨pD, tfp, rfl⟩
    · exact ⟨lD, tfl, rfl⟩
  have HUA : ∀ p ∈ [((He.cT K pD).2, qA), ((He.cT K lD).2, qB)], p.1 = (He.cT K pD).2 → p.2 = qA := fun p hp e => by
    simp only [List.mem_cons, List.not_mem_nil, or_false] at hp
    rcases hp with rfl | rfl
    · rfl
    · exact absurd e.symm x5
  have HUB : ∀ p ∈ [((He.cT K pD).2, qA), ((He.cT K lD).2, qB)], p.1 = (He.cT K lD).2 → p.2 = qB := fun p hp e => by
    simp only [List.mem_cons, List.not_mem_nil, or_false] at hp
    rcases hp with rfl | rfl
    · exact absurd e x5
    · rfl
  refine ⟨fd_law, [He.cT K pD, He.cT K lD], spLaw K [((He.cT K pD).2, qA), ((He.cT K lD).2, qB)], fun p hp => ?_, fun p hp => ?_, fun p hp => ?_, ?_, ?_, ?_⟩
  · obtain ⟨d, hd, rfl⟩ := csm p hp
    exact c.empty d hd
  · obtain ⟨d, hd, rfl⟩ := csm p hp
    exact c.out d hd
  · obtain ⟨d, hd, rfl⟩ := csm p hp
    exact codeHd_of_K X (c.hd d hd)
  · intro s u
    obtain ⟨oc, od, kV, doc, pm, an, cdv, ct, osl, rfl, lk, hc⟩ := F_law.ex
    exact .of_eq rfl
  · intro H a ns hl _ hH hS
    refine ⟨a, ns, rfl, hS, hl, fun p hp => ?_, fun _ => rfl⟩
    simp only [List.mem_cons, List.not_mem_nil, or_false] at hp
    rcases hp with rfl | rfl
    · exact LamX.TabS.nil (hH _ (List.mem_cons_self ..))
    · exact LamX.TabS.nil (hH _ (List.mem_cons_of_mem _ (List.mem_cons_self ..)))
  · intro base _ _ TB
    have TA := TB _ (List.mem_cons_self ..)
    have TL := TB _ (List.mem_cons_of_mem _ (List.mem_cons_self ..))
    have eN : ExK l.prog w K mg base "InvalidNumber" (He.ga K "InvalidNumber") := ⟨⟨_, _, tN, ok_iN F_iN, B_iN⟩⟩
    have eR : ExK l.prog w K mg base "Refused" (He.ga K "Refused") := ⟨⟨_, _, tR, ok_iR F_iR, B_iR⟩⟩
    have a_is_whole : Cal l.prog w K mg base 1 "is_whole" (spWh K) [] := cal_of D_is_whole fun _ _ F => ok_is_whole F T
    have h0 : CX0 = CX0 ∨ CX0 = L2.CX l.prog w := .inl rfl
    have h1 : L2.CX l.prog w = CX0 ∨ L2.CX l.prog w = L2.CX l.prog w := .inr rfl
    have a_is_whole : Cal l.prog w K mg base 1 "is_whole" (spWh K) [] := cal_of D_is_whole fun _ _ F => ok_is_whole F T
    have a_fraction_of : CalX l.prog w K mg base 3 "fraction_of" (spFrac (He.ga K "InvalidNumber")) := calx_of D_fraction_of fun _ _ F => ok_fraction_of F T eN
    have k_fraction_of : CalK l.prog w K mg base 3 "fraction_of" ["bottom", "top"] sw (spFrac (He.ga K "InvalidNumber")) := mkK2 F_fraction_of (ok_fraction_of F_fraction_of T eN) h1 g_fraction_of fun _ _ _ _ _ _ _ _ => rfl
    have a_whole : Cal l.prog w K mg base 1 "whole" spWhole [] := cal_of D_whole fun _ _ F => ok_whole F 
    have k_whole : CalK l.prog w K mg base 1 "whole" ["number"] id spWhole := mkK1 F_whole (ok_whole F_whole ) h0 g_whole fun _ _ _ _ _ _ _ => rfl
    have a_is_fraction : Cal l.prog w K mg base 2 "is_fraction" (spIsFr K) [] := cal_of D_is_fraction fun _ _ F => ok_is_fraction F T a_is_whole
    have k_is_fraction : CalK l.prog w K mg base 2 "is_fraction" ["value"] id (spIsFr K) := mkK1 F_is_fraction (ok_is_fraction F_is_fraction T a_is_whole) h0 g_is_fraction fun _ _ _ _ _ _ _ => rfl
    have a_added : Cal l.prog w K mg base 4 "added" (spTwo fun a b => (a.1 * b.2 + b.1 * a.2, a.2 * b.2)) [] := cal_of D_added fun _ _ F => ok_added F a_fraction_of
    have k_added : CalK l.prog w K mg base 4 "added" ["other", "one"] sw (spTwo fun a b => (a.1 * b.2 + b.1 * a.2, a.2 * b.2)) := mkK2 F_added (ok_added F_added a_fraction_of) h0 g_added fun _ _ _ _ _ _ _ _ => rfl
    have a_taken : Cal l.prog w K mg base 4 "taken" (spTwo fun a b => (a.1 * b.2 - b.1 * a.2, a.2 * b.2)) [] := cal_of D_taken fun _ _ F => ok_taken F a_fraction_of
    have k_taken : CalK l.prog w K mg base 4 "taken" ["other", "one"] sw (spTwo fun a b => (a.1 * b.2 - b.1 * a.2, a.2 * b.2)) := mkK2 F_taken (ok_taken F_taken a_fraction_of) h0 g_taken fun _ _ _ _ _ _ _ _ => rfl
    have a_timed : Cal l.prog w K mg base 4 "timed" (spTwo fun a b => (a.1 * b.1, a.2 * b.2)) [] := cal_of D_timed fun _ _ F => ok_timed F a_fraction_of
    have k_timed : CalK l.prog w K mg base 4 "timed" ["other", "one"] sw (spTwo fun a b => (a.1 * b.1, a.2 * b.2)) := mkK2 F_timed (ok_timed F_timed a_fraction_of) h0 g_timed fun _ _ _ _ _ _ _ _ => rfl
    have a_parted : CalX l.prog w K mg base 4 "parted" (spPart (He.ga K "InvalidNumber")) := calx_of D_parted fun _ _ F => ok_parted F a_fraction_of
    have k_parted : CalK l.prog w K mg base 4 "parted" ["other", "one"] sw (spPart (He.ga K "InvalidNumber")) := mkK2 F_parted (ok_parted F_parted a_fraction_of) h1 g_parted fun _ _ _ _ _ _ _ _ => rfl
    have a_is_less : Cal l.prog w K mg base 1 "is_less" spLess [] := cal_of D_is_less fun _ _ F => ok_is_less F 
    have k_is_less : CalK l.prog w K mg base 1 "is_less" ["other", "one"] sw spLess := mkK2 F_is_less (ok_is_less F_is_less ) h0 g_is_less fun _ _ _ _ _ _ _ _ => rfl
    have a_least_of : CalX l.prog w K mg base 3 "least_of" (spBest (He.ga K "Refused") leQ) := calx_of D_least_of fun _ _ F => ok_least_of F T a_is_less eR
    have k_least_of : CalK l.prog w K mg base 3 "least_of" ["some"] id (spBest (He.ga K "Refused") leQ) := mkK1 F_least_of (ok_least_of F_least_of T a_is_less eR) h1 g_least_of fun _ _ _ _ _ _ _ => rfl
    have a_greatest_of : CalX l.prog w K mg base 3 "greatest_of" (spBest (He.ga K "Refused") fun q r => leQ r q) := calx_of D_greatest_of fun _ _ F => ok_greatest_of F T a_is_less eR
    have k_greatest_of : CalK l.prog w K mg base 3 "greatest_of" ["some"] id (spBest (He.ga K "Refused") fun q r => leQ r q) := mkK1 F_greatest_of (ok_greatest_of F_greatest_of T a_is_less eR) h1 g_greatest_of fun _ _ _ _ _ _ _ => rfl
    have a_floor_of : Cal l.prog w K mg base 1 "floor_of" spFloor [] := cal_of D_floor_of fun _ _ F => ok_floor_of F 
    have k_floor_of : CalK l.prog w K mg base 1 "floor_of" ["value"] id spFloor := mkK1 F_floor_of (ok_floor_of F_floor_of ) h0 g_floor_of fun _ _ _ _ _ _ _ => rfl
    have a_ceiling_of : Cal l.prog w K mg base 1 "ceiling_of" spCeil [] := cal_of D_ceiling_of fun _ _ F => ok_ceiling_of F 
    have k_ceiling_of : CalK l.prog w K mg base 1 "ceiling_of" ["value"] id spCeil := mkK1 F_ceiling_of (ok_ceiling_of F_ceiling_of ) h0 g_ceiling_of fun _ _ _ _ _ _ _ => rfl
    have a_weighed : Cal l.prog w K mg base 4 "weighed" spWei [] := cal_of D_weighed fun _ _ F => ok_weighed F T a_fraction_of
    have k_weighed : CalK l.prog w K mg base 4 "weighed" ["point", "coefficients"] sw spWei := mkK2 F_weighed (ok_weighed F_weighed T a_fraction_of) h0 g_weighed fun _ _ _ _ _ _ _ _ => rfl
    have a_Lbox : Cal l.prog w K mg base 1 "_law_box" (spBox K) [] := cal_of D_Lbox fun _ _ F => ok_Lbox F T
    have a_Ltake : Cal l.prog w K mg base 1 "_law_take" spTake [] := cal_of D_Ltake fun _ _ F => ok_Ltake F T
    have a_Lpick : Cal l.prog w K mg base 2 "_law_pick" (spPick K) [] := cal_of D_Lpick fun _ _ F => ok_Lpick F T a_Ltake
    have a_LcommonL : Cal l.prog w K mg base 1 "_law_common" spComL [] := cal_of D_Lcommon fun _ _ F => ok_LcommonL F T
    have a_LcommonT : Cal l.prog w K mg base 1 "_law_common" spComT [] := cal_of D_Lcommon fun _ _ F => ok_LcommonT F T
    have a_Llow : Cal l.prog w K mg base 2 "_law_low" spLow [] := cal_of D_Llow fun _ _ F => ok_Llow F T a_LcommonL
    have a_Lis_integer : Cal l.prog w K mg base 1 "_law_is_integer" (spWh K) [] := cal_of D_Lis_integer fun _ _ F => ok_Lis_integer F T
    have a_Lis_fraction : Cal l.prog w K mg base 2 "_law_is_fraction" (spLIsFr K) [] := cal_of D_Lis_fraction fun _ _ F => ok_Lis_fraction F T a_LcommonT a_Lis_integer
    have a_Lfraction : Cal l.prog w K mg base 3 "_law_fraction" spFraction [] := cal_of D_Lfraction fun _ _ F => ok_Lfraction F T a_Ltake a_Lpick a_Llow
    have a_Ltruth : Cal l.prog w K mg base 1 "_law_truth" spTruth [] := cal_of D_Ltruth fun _ _ F => ok_Ltruth F T
    have a_Lequals : Cal l.prog w K mg base 3 "_law_equals" spEquals [] := cal_of D_Lequals fun _ _ F => ok_Lequals F T a_Lis_fraction
    have a_Lround_right : Cal l.prog w K mg base 2 "_law_round_right" spRound [] := cal_of D_Lround_right fun _ _ F => ok_Lround_right F a_floor_of a_ceiling_of k_floor_of k_ceiling_of a_Lis_integer
    have a_Lnear_right : Cal l.prog w K mg base 4 "_law_near_right" spNear [] := cal_of D_Lnear_right fun _ _ F => ok_Lnear_right F a_Ltake a_is_less a_least_of a_greatest_of
    have a_Lsome_right : Cal l.prog w K mg base 5 "_law_some_right" spSome [] := cal_of D_Lsome_right fun _ _ F => ok_Lsome_right F T a_Ltake a_Lpick a_Lequals a_least_of a_greatest_of k_least_of k_greatest_of a_weighed k_weighed
    have a_Lodd : Cal l.prog w K mg base 4 "_law_odd" (spOdd K) [] := cal_of D_Lodd fun _ _ F => ok_Lodd F O a_Lpick eR
    have PC : PairC l.prog w K mg base (He.ga K "InvalidNumber") := ⟨a_fraction_of, a_parted, a_added, a_taken, a_timed, a_is_less, a_whole, k_added, k_taken, k_timed, k_parted, k_is_less, k_fraction_of, k_whole, a_Lpick, a_Lequals, a_Ltruth⟩
    have o_pair := ok_Lpair_right (P := l.prog) (w := w) FC TA (List.mem_cons_self ..) HUA D_Lrefused E2 PC
    have a_pair : Cal l.prog w K mg base 9 "_law_pair_right" (spPair [((He.cT K pD).2, qA), ((He.cT K lD).2, qB)]) [] := ⟨_, _, _, [], o_pair, g_Lpair_right, F_Lpair_right.kp, F_Lpair_right.binds fun _ _ _ _ _ _ us hl => match us, hl with | [_, _, _], _ => rfl, .nil⟩
    have LC : LawC l.prog w K mg base (He.ga K "InvalidNumber") (He.ga K "Refused") [((He.cT K pD).2, qA), ((He.cT K lD).2, qB)] := ⟨a_Lbox, a_Lfraction, a_pair, a_Lpick, a_Lround_right, a_Ltake, a_Lsome_right, a_Lnear_right, a_Lodd, a_Ltruth, a_is_fraction, a_Lis_fraction, k_is_fraction, a_least_of, k_greatest_of, a_weighed, a_floor_of, a_ceiling_of, a_fraction_of⟩
    exact ok_law FL TL (List.mem_cons_of_mem _ (List.mem_cons_self ..)) HUB D_Lrefused E2 T LC
end M02
open PySem PySem.W PySem.Calls PyProof.Rows
set_option maxHeartbeats 0 in
theorem PySem.Challenge.cw_paperbest_k02_whole_fractions_holds : PySem.Challenge.rw_paperbest_k02_whole_fractions.Holds := by
  w_on; o_law
  refine HandSHeadRun.head_imp (r := OpenLaw.row PySem.Challenge.rw_paperbest_k02_whole_fractions) (q := view (OpenLaw.row PySem.Challenge.rw_paperbest_k02_whole_fractions).prog [0, 37]) (H := M02.hk) (ob := M02.ob) (M := 8000) (loose := M02.loose) (d := HandSHeadRun.topDef (OpenLaw.row PySem.Challenge.rw_paperbest_k02_whole_fractions).prog 37) (kwd := []) M02.ob_eq
    M02.run (by kernel_rfl) (by kernel_rfl) (by kernel_rfl) (by rfl) (by first | assumption | decide +kernel) (by decide +kernel) ⟨rfl, rfl, rfl, rfl, rfl, by decide +kernel⟩ ?hw ?hc
  case hw => w_witness2
  case hc =>
    refine LamX.walk_ofTsE (l := PySem.Challenge.rw_paperbest_k02_whole_fractions) (n := 63) (k := 10) (x := "script") (CX := fun _ => L2.CX0) rfl (by decide) (by kernel_rfl) ⟨rfl, by decide, by decide⟩ ?F (fun _ _ _ _ _ z => z)
    intro w mg fa h Y G hmg0
    obtain ⟨K, KX, c⟩ := Y
    have hmg : mg ("law" : PySem.Str) = some (.ref fa) := by
      have e : (HandSHeadRun.topDef (OpenLaw.row PySem.Challenge.rw_paperbest_k02_whole_fractions).prog 37).name = ("law" : PySem.Str) := by kernel_rfl
      rw [← e]
      exact hmg0
    exact ⟨K, KX, M02.facts KX G hmg c⟩
