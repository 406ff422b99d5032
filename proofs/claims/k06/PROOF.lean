import PyProof.Rows.All
import Wide.All
import OpenK.AllK
import Wide.FinOn
import HandS.ForMost
import HandS.Codes
import HandS.IsInst
import HandS.Style
import HandS.TupAny
import HandS.StrMore
import PySem.Challenge.RW_paperbest_k06_marks_cut_and_joined
import HandS.Walk
set_option Elab.async false
set_option linter.all false
set_option maxRecDepth 100000
set_option maxHeartbeats 8000000
/-! marks: two plain readings of a text, as lists of code points -/
namespace M06
abbrev Tx := List Nat
def isL (c : Nat) : Bool := decide (97 ≤ c) && decide (c ≤ 122)
def isD (c : Nat) : Bool := decide (48 ≤ c) && decide (c ≤ 57)
def run (p : Nat → Bool) : Tx → Nat
  | [] => 0
  | c :: r => if p c then run p r + 1 else 0
def numLen (l : Tx) : Nat :=
  if l[run isD l]? = some 47 then
    (if 0 < run isD (l.drop (run isD l + 1)) then run isD l + 1 + run isD (l.drop (run isD l + 1)) else run isD l)
  else run isD l
def markLen : Tx → Nat
  | [] => 1
  | c :: r => if isL c then run isL (c :: r) else if isD c then numLen (c :: r)
    else if (c = 62 ∨ c = 60) ∧ r[0]? = some 61 then 2 else 1

theorem markLen_cons (c : Nat) (r : Tx) : markLen (c :: r) = if isL c then run isL (c :: r) else if isD c then numLen (c :: r)
    else if (c = 62 ∨ c = 60) ∧ r[0]? = some 61 then 2 else 1 := rfl
theorem run_cons (p : Nat → Bool) (c : Nat) (r : Tx) : run p (c :: r) = if p c then run p r + 1 else 0 := rfl
theorem run_le (p : Nat → Bool) : ∀ l : Tx, run p l ≤ l.length
  | [] => Nat.zero_le _
  | c :: r => by
    have := run_le p r
    unfold run; split
    · rw [List.length_cons]; omega
    · exact Nat.zero_le _
theorem run_all (p : Nat → Bool) : ∀ (l : Tx) (i c : Nat), i < run p l → l[i]? = some c → p c = true
  | [], i, c, h, e => by simp at e
  | d :: r, i, c, h, e => by
    unfold run at h
    by_cases hd : p d = true
    · rw [if_pos hd] at h
      cases i with
      | zero => simp at e; subst e; exact hd
      | succ i => exact run_all p r i c (by omega) (by simpa using e)
    · rw [if_neg hd] at h; omega
theorem run_stop (p : Nat → Bool) : ∀ (l : Tx) (c : Nat), l[run p l]? = some c → p c = false
  | [], c, e => by simp [run] at e
  | d :: r, c, e => by
    by_cases hd : p d = true
    · have h : run p (d :: r) = run p r + 1 := by rw [run_cons, if_pos hd]
      rw [h] at e
      exact run_stop p r c (by simpa using e)
    · have h : run p (d :: r) = 0 := by rw [run_cons, if_neg hd]
      rw [h] at e; simp at e; subst e; simpa using hd
/-- the run is at least k if the first k are good -/
theorem run_ge (p : Nat → Bool) : ∀ (l : Tx) (k : Nat), k ≤ l.length → (∀ i c, i < k → l[i]? = some c → p c = true) → k ≤ run p l
  | [], k, h, _ => by rw [show k = 0 by simpa using h]; exact Nat.zero_le _
  | d :: r, 0, _, _ => Nat.zero_le _
  | d :: r, k + 1, h, a => by
    have h0 : p d = true := a 0 d (by omega) (by simp)
    have := run_ge p r k (by simpa using h) (fun i c hi e => a (i + 1) c (by omega) (by simpa using e))
    rw [run_cons, if_pos h0]; omega
theorem run_eq {p : Nat → Bool} {l : Tx} {k : Nat} (h : k ≤ l.length) (a : ∀ i c, i < k → l[i]? = some c → p c = true) (b : ∀ c, l[k]? = some c → p c = false) : run p l = k := by
  have h1 := run_ge p l k h a
  have h2 := run_le p l
  by_cases e : run p l = k
  · exact e
  · have h3 : k < l.length := by omega
    have h4 : l[k]? = some l[k] := List.getElem?_eq_getElem h3
    have := run_all p l k _ (by omega) h4
    rw [b _ h4] at this; cases this
/-- a sign that ends runs: behind it all is as if the text ended there -/
theorem run_app {p : Nat → Bool} {d : Nat} (hd : p d = false) (l r : Tx) : run p (l ++ d :: r) = run p l := by
  induction l with
  | nil => simp [run, hd]
  | cons c l ih => simp only [List.cons_append, run, ih]
theorem run_take (p : Nat → Bool) : ∀ (l : Tx) (k : Nat), run p (l.take k) = min k (run p l)
  | [], k => by simp [run]
  | c :: r, 0 => by simp [run]
  | c :: r, k + 1 => by
    simp only [List.take_succ_cons, run, run_take p r k]
    split <;> omega
theorem numLen_le (l : Tx) : numLen l ≤ l.length := by
  have h1 := run_le isD l
  unfold numLen
  split
  · rename_i e
    split
    · have h2 := run_le isD (l.drop (run isD l + 1))
      rw [List.length_drop] at h2
      have h3 : run isD l < l.length := (List.getElem?_eq_some_iff.mp e).1
      omega
    · exact h1
  · exact h1
theorem markLen_le {l : Tx} (h : l ≠ []) : markLen l ≤ l.length := by
  cases l with
  | nil => exact absurd rfl h
  | cons c r =>
    rw [markLen_cons]
    split
    · exact run_le _ _
    · split
      · exact numLen_le _
      · split
        · rename_i e
          have : 0 < r.length := (List.getElem?_eq_some_iff.mp e.2).1
          rw [List.length_cons]; omega
        · rw [List.length_cons]; omega
theorem numLen_pos {c : Nat} {r : Tx} (h : isD c = true) : 1 ≤ numLen (c :: r) := by
  have h1 : 1 ≤ run isD (c :: r) := by rw [run_cons, if_pos h]; omega
  unfold numLen
  split
  · split <;> omega
  · exact h1
theorem markLen_pos (l : Tx) : 1 ≤ markLen l := by
  cases l with
  | nil => exact Nat.le_refl _
  | cons c r =>
    rw [markLen_cons]
    split
    · rename_i h; rw [run_cons, if_pos h]; omega
    · split
      · rename_i h; exact numLen_pos h
      · split <;> omega
/-- d ends marks -/
def Dl (d : Nat) : Prop := isL d = false ∧ isD d = false ∧ d ≠ 47 ∧ d ≠ 61
theorem dl32 : Dl 32 := ⟨by decide, by decide, by decide, by decide⟩
theorem dl10 : Dl 10 := ⟨by decide, by decide, by decide, by decide⟩
theorem get_app {l r : Tx} {d i : Nat} (h : i ≤ l.length) : (l ++ d :: r)[i]? = if i = l.length then some d else l[i]? := by
  by_cases e : i = l.length
  · rw [if_pos e, e, List.getElem?_append_right (Nat.le_refl _)]; simp
  · rw [if_neg e, List.getElem?_append_left (by omega)]
theorem numLen_app {d : Nat} (hd : Dl d) (l r : Tx) : numLen (l ++ d :: r) = numLen l := by
  have h1 := run_app hd.2.1 l r
  have hle := run_le isD l
  have e1 : (l ++ d :: r)[run isD l]? = some 47 ↔ l[run isD l]? = some 47 := by
    rw [get_app hle]
    split
    · rename_i e
      rw [e, List.getElem?_eq_none (Nat.le_refl _)]
      simp [hd.2.2.1]
    · exact Iff.rfl
  unfold numLen
  rw [h1]
  by_cases q : l[run isD l]? = some 47
  · have hlt : run isD l < l.length := (List.getElem?_eq_some_iff.mp q).1
    rw [if_pos (e1.mpr q), if_pos q, List.drop_append_of_le_length (by omega), run_app hd.2.1]
  · rw [if_neg (fun z => q (e1.mp z)), if_neg q]
theorem markLen_app {d : Nat} (hd : Dl d) {l : Tx} (hl : l ≠ []) (r : Tx) : markLen (l ++ d :: r) = markLen l := by
  cases l with
  | nil => exact absurd rfl hl
  | cons c q =>
    have h1 := run_app hd.1 (c :: q) r
    have h2 := numLen_app hd (c :: q) r
    rw [List.cons_append] at h1 h2 ⊢
    rw [markLen_cons, markLen_cons, h1, h2]
    have e : ((q ++ d :: r)[0]? = some 61) ↔ (q[0]? = some 61) := by
      cases q with
      | nil => simp [hd.2.2.2]
      | cons _ _ => simp
    simp only [e]
theorem numLen_take (l : Tx) : numLen (l.take (numLen l)) = numLen l := by
  have hle := run_le isD l
  have key : ∀ k, run isD l ≤ k → run isD (l.take k) = run isD l := fun k h => by rw [run_take]; omega
  by_cases q : l[run isD l]? = some 47
  · by_cases p : 0 < run isD (l.drop (run isD l + 1))
    · have e : numLen l = run isD l + 1 + run isD (l.drop (run isD l + 1)) := by unfold numLen; rw [if_pos q, if_pos p]
      have k1 := key (numLen l) (by omega)
      have k2 : (l.take (numLen l))[run isD l]? = some 47 := by rw [List.getElem?_take_of_lt (by omega)]; exact q
      have k3 : run isD ((l.take (numLen l)).drop (run isD l + 1)) = run isD (l.drop (run isD l + 1)) := by
        rw [List.drop_take, run_take]; omega
      have : numLen (l.take (numLen l)) = run isD l + 1 + run isD (l.drop (run isD l + 1)) := by
        unfold numLen at k1 k2 k3 ⊢
        rw [k1, if_pos k2, k3, if_pos p]
      omega
    · have e : numLen l = run isD l := by unfold numLen; rw [if_pos q, if_neg p]
      have k1 := key (run isD l) (Nat.le_refl _)
      have k2 : (l.take (run isD l))[run isD l]? = none := List.getElem?_eq_none (by rw [List.length_take]; omega)
      rw [e]; unfold numLen; rw [k1, k2, if_neg (by simp)]
  · have e : numLen l = run isD l := by unfold numLen; rw [if_neg q]
    have k1 := key (run isD l) (Nat.le_refl _)
    have k2 : (l.take (run isD l))[run isD l]? = none := List.getElem?_eq_none (by rw [List.length_take]; omega)
    rw [e]; unfold numLen; rw [k1, k2, if_neg (by simp)]
theorem take_cons_pos {c : Nat} {r : Tx} {k : Nat} (h : 1 ≤ k) : (c :: r).take k = c :: r.take (k - 1) := by
  obtain ⟨j, rfl⟩ : ∃ j, k = j + 1 := ⟨k - 1, by omega⟩
  simp
theorem markLen_take {l : Tx} (hl : l ≠ []) : markLen (l.take (markLen l)) = markLen l := by
  cases l with
  | nil => exact absurd rfl hl
  | cons c r =>
    have hp := markLen_pos (c :: r)
    by_cases h1 : isL c = true
    · have e : markLen (c :: r) = run isL (c :: r) := by rw [markLen_cons, if_pos h1]
      have e2 : markLen ((c :: r).take (markLen (c :: r))) = run isL ((c :: r).take (markLen (c :: r))) := by
        rw [take_cons_pos hp, markLen_cons, if_pos h1]
      rw [e2, run_take]; omega
    · by_cases h2 : isD c = true
      · have e : markLen (c :: r) = numLen (c :: r) := by rw [markLen_cons, if_neg h1, if_pos h2]
        have e2 : markLen ((c :: r).take (markLen (c :: r))) = numLen ((c :: r).take (markLen (c :: r))) := by
          rw [take_cons_pos hp, markLen_cons, if_neg h1, if_pos h2]
        rw [e2, e]; exact numLen_take _
      · by_cases h3 : (c = 62 ∨ c = 60) ∧ r[0]? = some 61
        · have e : markLen (c :: r) = 2 := by rw [markLen_cons, if_neg h1, if_neg h2, if_pos h3]
          rw [e]
          cases r with
          | nil => simp at h3
          | cons d q =>
            have : d = 61 := by simpa using h3.2
            subst this
            show markLen [c, 61] = 2
            rw [markLen_cons, if_neg h1, if_neg h2, if_pos ⟨h3.1, rfl⟩]
        · have e : markLen (c :: r) = 1 := by rw [markLen_cons, if_neg h1, if_neg h2, if_neg h3]
          rw [e]
          show markLen [c] = 1
          rw [markLen_cons, if_neg h1, if_neg h2, if_neg (by simp)]
/-- signs in a mark: the first one, or one that ends nothing -/
theorem mark_in {l : Tx} {d : Nat} (hd : Dl d) {i : Nat} (h0 : 1 ≤ i) (hi : i < markLen l) (e : l[i]? = some d) : False := by
  cases l with
  | nil => simp at e
  | cons c r =>
    by_cases h1 : isL c = true
    · rw [markLen_cons, if_pos h1] at hi
      have := run_all isL _ _ _ hi e
      rw [hd.1] at this; cases this
    · by_cases h2 : isD c = true
      · rw [markLen_cons, if_neg h1, if_pos h2] at hi
        unfold numLen at hi
        by_cases q : (c :: r)[run isD (c :: r)]? = some 47
        · rw [if_pos q] at hi
          have step : ∀ j, j < run isD (c :: r) → (c :: r)[j]? = some d → False := fun j hj ej => by
            have := run_all isD _ _ _ hj ej
            rw [hd.2.1] at this; cases this
          split at hi
          · by_cases a : i < run isD (c :: r)
            · exact step i a e
            · by_cases b : i = run isD (c :: r)
              · rw [b, q] at e; exact hd.2.2.1 (Option.some.inj e).symm
              · have ej : ((c :: r).drop (run isD (c :: r) + 1))[i - (run isD (c :: r) + 1)]? = some d := by
                  rw [List.getElem?_drop]
                  rw [show run isD (c :: r) + 1 + (i - (run isD (c :: r) + 1)) = i by omega]; exact e
                have := run_all isD _ _ _ (by omega) ej
                rw [hd.2.1] at this; cases this
          · exact step i hi e
        · rw [if_neg q] at hi
          have := run_all isD _ _ _ hi e
          rw [hd.2.1] at this; cases this
      · rw [markLen_cons, if_neg h1, if_neg h2] at hi
        split at hi
        · rename_i h3
          have : i = 1 := by omega
          subst this
          have : r[0]? = some d := by simpa using e
          rw [h3.2] at this
          exact hd.2.2.2 (Option.some.inj this).symm
        · omega
/-! ### the marks, by the first reading -/
abbrev Mk := Nat × Nat × Tx
def lexN : Nat → Nat → Nat → Tx → List Mk
  | 0, _, _, _ => []
  | _ + 1, _, _, [] => []
  | n + 1, ln, col, c :: r => if c = 32 then lexN n ln (col + 1) r else if c = 10 then (ln, col, [10]) :: lexN n (ln + 1) 0 r
    else (ln, col, (c :: r).take (markLen (c :: r))) :: lexN n ln (col + markLen (c :: r)) ((c :: r).drop (markLen (c :: r)))
theorem drop_lt {c : Nat} {r : Tx} : ((c :: r).drop (markLen (c :: r))).length ≤ r.length := by
  have := markLen_pos (c :: r)
  rw [List.length_drop, List.length_cons]; omega
theorem lexN_fuel : ∀ (n m ln col : Nat) (l : Tx), l.length ≤ n → l.length ≤ m → lexN n ln col l = lexN m ln col l
  | 0, 0, _, _, _, _, _ => rfl
  | 0, m + 1, _, _, l, h, _ => by
    have : l = [] := List.length_eq_zero_iff.mp (by omega)
    subst this; rfl
  | n + 1, 0, _, _, l, _, h => by
    have : l = [] := List.length_eq_zero_iff.mp (by omega)
    subst this; rfl
  | n + 1, m + 1, ln, col, [], _, _ => rfl
  | n + 1, m + 1, ln, col, c :: r, h1, h2 => by
    rw [List.length_cons] at h1 h2
    have hd := drop_lt (c := c) (r := r)
    unfold lexN
    rw [lexN_fuel n m ln (col + 1) r (by omega) (by omega), lexN_fuel n m (ln + 1) 0 r (by omega) (by omega), lexN_fuel n m ln _ _ (by omega : ((c :: r).drop (markLen (c :: r))).length ≤ n) (by omega)]
def lex (ln col : Nat) (l : Tx) : List Mk := lexN l.length ln col l
theorem lex_nil (ln col : Nat) : lex ln col [] = [] := rfl
theorem lex_cons (ln col c : Nat) (r : Tx) : lex ln col (c :: r) = if c = 32 then lex ln (col + 1) r else if c = 10 then (ln, col, [10]) :: lex (ln + 1) 0 r
    else (ln, col, (c :: r).take (markLen (c :: r))) :: lex ln (col + markLen (c :: r)) ((c :: r).drop (markLen (c :: r))) := by
  have hd := drop_lt (c := c) (r := r)
  show lexN (r.length + 1) ln col (c :: r) = _
  unfold lexN
  rw [lexN_fuel r.length _ ln _ _ hd (Nat.le_refl _)]
  rfl
theorem lex_sp (ln col : Nat) (r : Tx) : lex ln col (32 :: r) = lex ln (col + 1) r := by rw [lex_cons, if_pos rfl]
theorem lex_nl (ln col : Nat) (r : Tx) : lex ln col (10 :: r) = (ln, col, [10]) :: lex (ln + 1) 0 r := by rw [lex_cons, if_neg (by decide), if_pos rfl]
theorem lex_mk (ln col : Nat) {c : Nat} {r : Tx} (h1 : c ≠ 32) (h2 : c ≠ 10) : lex ln col (c :: r) = (ln, col, (c :: r).take (markLen (c :: r))) :: lex ln (col + markLen (c :: r)) ((c :: r).drop (markLen (c :: r))) := by
  rw [lex_cons, if_neg h1, if_neg h2]
/-- by the marks of a text: a proof by their turns -/
theorem by_marks {P : Tx → Prop} (h0 : P []) (h1 : ∀ r, P r → P (32 :: r)) (h2 : ∀ r, P r → P (10 :: r))
    (h3 : ∀ c r, c ≠ 32 → c ≠ 10 → P ((c :: r).drop (markLen (c :: r))) → P (c :: r)) : ∀ (n : Nat) (l : Tx), l.length ≤ n → P l
  | _, [], _ => h0
  | 0, c :: r, h => by simp at h
  | n + 1, c :: r, h => by
    rw [List.length_cons] at h
    have hd := drop_lt (c := c) (r := r)
    by_cases e1 : c = 32
    · subst e1; exact h1 r (by_marks h0 h1 h2 h3 n r (by omega))
    · by_cases e2 : c = 10
      · subst e2; exact h2 r (by_marks h0 h1 h2 h3 n r (by omega))
      · exact h3 c r e1 e2 (by_marks h0 h1 h2 h3 n _ (by omega))
/-! ### a blank or a newline behind a text -/
def cnt (l : Tx) : Nat := l.count 10
/-- the column behind a text that begins at column col -/
def endCol : Nat → Tx → Nat
  | col, [] => col
  | col, c :: r => if c = 10 then endCol 0 r else endCol (col + 1) r
theorem endCol_app : ∀ (l m : Tx) (col : Nat), endCol col (l ++ m) = endCol (endCol col l) m
  | [], m, col => rfl
  | c :: r, m, col => by
    simp only [List.cons_append, endCol]
    split <;> exact endCol_app r m _
theorem endCol_free : ∀ (l : Tx) (col : Nat), 10 ∉ l → endCol col l = col + l.length
  | [], col, _ => rfl
  | c :: r, col, h => by
    rw [List.mem_cons, not_or] at h
    rw [endCol, if_neg (fun e => h.1 e.symm), endCol_free r _ h.2, List.length_cons]; omega
theorem mark_free {c : Nat} {r : Tx} {d : Nat} (hd : Dl d) (hc : c ≠ d) : d ∉ (c :: r).take (markLen (c :: r)) := fun hm => by
  obtain ⟨i, hi⟩ := List.getElem?_of_mem hm
  have hlt : i < ((c :: r).take (markLen (c :: r))).length := (List.getElem?_eq_some_iff.mp hi).1
  rw [List.length_take] at hlt
  rw [List.getElem?_take_of_lt (by omega)] at hi
  cases i with
  | zero => simp at hi; exact hc hi
  | succ i => exact mark_in hd (by omega) (by omega) hi
theorem lex_end {d : Nat} (hd : Dl d) (m : Tx) : ∀ (l : Tx) (ln col : Nat), lex ln col (l ++ d :: m) = lex ln col l ++ lex (ln + cnt l) (endCol col l) (d :: m) := by
  intro l
  refine by_marks (P := fun l => ∀ ln col, lex ln col (l ++ d :: m) = lex ln col l ++ lex (ln + cnt l) (endCol col l) (d :: m)) ?_ ?_ ?_ ?_ l.length l (Nat.le_refl _)
  · intro ln col; rfl
  · intro r ih ln col
    rw [List.cons_append, lex_sp, lex_sp, ih]
    have : cnt (32 :: r) = cnt r := by simp [cnt]
    rw [this]
    rfl
  · intro r ih ln col
    rw [List.cons_append, lex_nl, lex_nl, ih]
    have : cnt (10 :: r) = cnt r + 1 := by simp [cnt]
    rw [this, List.cons_append]
    rw [show ln + 1 + cnt r = ln + (cnt r + 1) by omega]
    rfl
  · intro c r h1 h2 ih ln col
    have hn := markLen_app hd (List.cons_ne_nil c r) m
    have hle := markLen_le (List.cons_ne_nil c r)
    rw [List.cons_append] at hn
    rw [List.cons_append, lex_mk ln col h1 h2, lex_mk ln col h1 h2, hn]
    have e1 : (c :: (r ++ d :: m)).take (markLen (c :: r)) = (c :: r).take (markLen (c :: r)) := by
      rw [← List.cons_append, List.take_append_of_le_length hle]
    have e2 : (c :: (r ++ d :: m)).drop (markLen (c :: r)) = (c :: r).drop (markLen (c :: r)) ++ d :: m := by
      rw [← List.cons_append, List.drop_append_of_le_length hle]
    rw [e1, e2, ih, List.cons_append]
    have f := mark_free (r := r) dl10 h2
    have e3 : cnt (c :: r) = cnt ((c :: r).drop (markLen (c :: r))) := by
      conv => lhs; rw [← List.take_append_drop (markLen (c :: r)) (c :: r)]
      unfold cnt
      rw [List.count_append, List.count_eq_zero_of_not_mem f]; omega
    have e4 : endCol col (c :: r) = endCol (col + markLen (c :: r)) ((c :: r).drop (markLen (c :: r))) := by
      conv => lhs; rw [← List.take_append_drop (markLen (c :: r)) (c :: r)]
      rw [endCol_app, endCol_free _ _ f, List.length_take, Nat.min_eq_left hle]
    rw [← e3, ← e4]
/-! ### moved marks -/
def shift (dl dc ln0 : Nat) (k : Mk) : Mk := (k.1 + dl, k.2.1 + (if k.1 = ln0 then dc else 0), k.2.2)
theorem lex_line : ∀ (l : Tx) (ln col : Nat), ∀ k ∈ lex ln col l, ln ≤ k.1 := by
  intro l
  refine by_marks (P := fun l => ∀ ln col, ∀ k ∈ lex ln col l, ln ≤ k.1) ?_ ?_ ?_ ?_ l.length l (Nat.le_refl _)
  · intro ln col k h; simp [lex_nil] at h
  · intro r ih ln col k h; rw [lex_sp] at h; exact ih _ _ k h
  · intro r ih ln col k h
    rw [lex_nl] at h
    rcases List.mem_cons.mp h with e | e
    · subst e; exact Nat.le_refl _
    · have := ih _ _ k e; omega
  · intro c r h1 h2 ih ln col k h
    rw [lex_mk _ _ h1 h2] at h
    rcases List.mem_cons.mp h with e | e
    · subst e; exact Nat.le_refl _
    · exact ih _ _ k e
theorem lex_shift0 (dl : Nat) : ∀ (l : Tx) (ln col : Nat), lex (ln + dl) col l = (lex ln col l).map fun k => (k.1 + dl, k.2.1, k.2.2) := by
  intro l
  refine by_marks (P := fun l => ∀ ln col, lex (ln + dl) col l = (lex ln col l).map fun k => (k.1 + dl, k.2.1, k.2.2)) ?_ ?_ ?_ ?_ l.length l (Nat.le_refl _)
  · intro ln col; rfl
  · intro r ih ln col; rw [lex_sp, lex_sp, ih]
  · intro r ih ln col
    rw [lex_nl, lex_nl, show ln + dl + 1 = (ln + 1) + dl by omega, ih]; rfl
  · intro c r h1 h2 ih ln col
    rw [lex_mk _ _ h1 h2, lex_mk _ _ h1 h2, ih]; rfl
theorem lex_shift (dl dc : Nat) : ∀ (l : Tx) (ln col : Nat), lex (ln + dl) (col + dc) l = (lex ln col l).map (shift dl dc ln) := by
  intro l
  refine by_marks (P := fun l => ∀ ln col, lex (ln + dl) (col + dc) l = (lex ln col l).map (shift dl dc ln)) ?_ ?_ ?_ ?_ l.length l (Nat.le_refl _)
  · intro ln col; rfl
  · intro r ih ln col
    rw [lex_sp, lex_sp, show col + dc + 1 = (col + 1) + dc by omega, ih]
  · intro r ih ln col
    rw [lex_nl, lex_nl, show ln + dl + 1 = (ln + 1) + dl by omega, lex_shift0, List.map_cons]
    refine congr (congrArg _ ?_) (List.map_congr_left fun k hk => ?_)
    · simp [shift]
    · have := lex_line r (ln + 1) 0 k hk
      simp only [shift]
      rw [if_neg (by omega)]; simp
  · intro c r h1 h2 ih ln col
    rw [lex_mk _ _ h1 h2, lex_mk _ _ h1 h2, show col + dc + markLen (c :: r) = (col + markLen (c :: r)) + dc by omega, ih, List.map_cons]
    refine congrArg (· :: _) ?_
    simp [shift]
/-- a blank and a second text behind a text -/
theorem lex_two (l m : Tx) : lex 0 0 (l ++ 32 :: m) = lex 0 0 l ++ (lex 0 0 m).map (shift (cnt l) (endCol 0 l + 1) 0) := by
  rw [lex_end dl32, lex_sp]
  have := lex_shift (cnt l) (endCol 0 l + 1) m 0 0
  rw [Nat.zero_add, Nat.zero_add] at this
  rw [Nat.zero_add, this]
/-! ### marks joined by blanks -/
def Good (m : Tx) : Prop := m = [10] ∨ ∃ c r, m = c :: r ∧ c ≠ 32 ∧ c ≠ 10 ∧ markLen m = m.length
theorem lex_good : ∀ (l : Tx) (ln col : Nat), ∀ k ∈ lex ln col l, Good k.2.2 := by
  intro l
  refine by_marks (P := fun l => ∀ ln col, ∀ k ∈ lex ln col l, Good k.2.2) ?_ ?_ ?_ ?_ l.length l (Nat.le_refl _)
  · intro ln col k h; simp [lex_nil] at h
  · intro r ih ln col k h; rw [lex_sp] at h; exact ih _ _ k h
  · intro r ih ln col k h
    rw [lex_nl] at h
    rcases List.mem_cons.mp h with e | e
    · subst e; exact .inl rfl
    · exact ih _ _ k e
  · intro c r h1 h2 ih ln col k h
    rw [lex_mk _ _ h1 h2] at h
    rcases List.mem_cons.mp h with e | e
    · subst e
      refine .inr ⟨c, r.take (markLen (c :: r) - 1), take_cons_pos (markLen_pos _), h1, h2, ?_⟩
      show markLen ((c :: r).take (markLen (c :: r))) = ((c :: r).take (markLen (c :: r))).length
      rw [markLen_take (List.cons_ne_nil c r), List.length_take, Nat.min_eq_left (markLen_le (List.cons_ne_nil c r))]
    · exact ih _ _ k e
def joinB : List Tx → Tx
  | [] => []
  | [m] => m
  | m :: k :: r => m ++ 32 :: joinB (k :: r)
theorem lex_good1 {m : Tx} (h : Good m) (ln col : Nat) : ∃ b, lex ln col m = [(ln, col, m)] ∧ b = 0 := by
  rcases h with rfl | ⟨c, r, rfl, h1, h2, e⟩
  · exact ⟨0, rfl, rfl⟩
  · refine ⟨0, ?_, rfl⟩
    rw [lex_mk _ _ h1 h2, e, List.take_length, List.drop_length, lex_nil]
theorem lex_join : ∀ (ms : List Tx), (∀ m ∈ ms, Good m) → ∀ ln col, (lex ln col (joinB ms)).map (·.2.2) = ms
  | [], _, _, _ => rfl
  | [m], h, ln, col => by
    obtain ⟨_, e, _⟩ := lex_good1 (h m (by simp)) ln col
    show (lex ln col m).map _ = _
    rw [e]; rfl
  | m :: k :: r, h, ln, col => by
    obtain ⟨_, e, _⟩ := lex_good1 (h m (by simp)) ln col
    show (lex ln col (m ++ 32 :: joinB (k :: r))).map _ = _
    rw [lex_end dl32, lex_sp, e, List.map_append, lex_join (k :: r) (fun z hz => h z (List.mem_cons_of_mem _ hz))]
    rfl
/-! ### the lengths of marks and the blanks -/
theorem lex_sum : ∀ (l : Tx) (ln col : Nat), ((lex ln col l).map fun k => k.2.2.length).sum + l.count 32 = l.length := by
  intro l
  refine by_marks (P := fun l => ∀ ln col, ((lex ln col l).map fun k => k.2.2.length).sum + l.count 32 = l.length) ?_ ?_ ?_ ?_ l.length l (Nat.le_refl _)
  · intro ln col; rfl
  · intro r ih ln col
    have := ih ln (col + 1)
    rw [lex_sp, List.count_cons_self, List.length_cons]; omega
  · intro r ih ln col
    have := ih (ln + 1) 0
    rw [lex_nl, List.count_cons_of_ne (by decide), List.length_cons, List.map_cons, List.sum_cons]
    simp only [List.length_cons, List.length_nil]; omega
  · intro c r h1 h2 ih ln col
    have := ih ln (col + markLen (c :: r))
    have hle := markLen_le (List.cons_ne_nil c r)
    have f := mark_free (r := r) dl32 h1
    rw [lex_mk _ _ h1 h2, List.map_cons, List.sum_cons]
    have e3 : (c :: r).count 32 = ((c :: r).drop (markLen (c :: r))).count 32 := by
      conv => lhs; rw [← List.take_append_drop (markLen (c :: r)) (c :: r)]
      rw [List.count_append, List.count_eq_zero_of_not_mem f]; omega
    rw [e3]
    simp only [List.length_take, List.length_drop] at this ⊢
    omega
end M06

/-! the law's own reading -/
namespace M06
def parts (p : Tx) : List Tx := TL.spl [47] 0 [] p
def isMark (p : Tx) : Bool := decide (p.length = 1) || ((p == [62, 61] || p == [60, 61]) || (p.all isL || (decide ((parts p).length < 3) && (parts p).all fun q => q != [] && q.all isD)))
theorem spl_ne (s : Nat) : ∀ (l acc : Tx), TL.spl [s] 0 acc l ≠ [] := by
  intro l
  induction l with
  | nil => intro acc; rw [TL.spl_nil]; exact List.cons_ne_nil _ _
  | cons c r ih =>
    intro acc
    by_cases h : TL.pre [s] (c :: r) = true
    · rw [TL.spl_hit h]; exact List.cons_ne_nil _ _
    · rw [TL.spl_miss (by simpa using h)]; exact ih _
theorem first_cut {s : Nat} : ∀ {l : Tx}, s ∈ l → ∃ a b, l = a ++ s :: b ∧ s ∉ a
  | c :: r, h => by
    by_cases e : c = s
    · exact ⟨[], r, by rw [e]; rfl, by simp⟩
    · have : s ∈ r := by rcases List.mem_cons.mp h with z | z; exact absurd z.symm e; exact z
      obtain ⟨a, b, e1, e2⟩ := first_cut this
      exact ⟨c :: a, b, by rw [e1]; rfl, by rw [List.mem_cons, not_or]; exact ⟨fun z => e z.symm, e2⟩⟩
theorem spl_cut {s : Nat} {a b : Tx} (h : s ∉ a) : TL.spl [s] 0 [] (a ++ s :: b) = a :: TL.spl [s] 0 [] b := by
  have := TL.spl_part1 (S := []) (acc := []) (rest := b) h
  simpa using this
theorem spl_free1 {s : Nat} {a : Tx} (h : s ∉ a) : TL.spl [s] 0 [] a = [a] := by
  have := TL.spl_last1 (S := []) (acc := []) h
  simpa using this
def Num (p : Tx) : Prop := (p ≠ [] ∧ p.all isD = true) ∨ ∃ a b, p = a ++ 47 :: b ∧ a ≠ [] ∧ a.all isD = true ∧ b ≠ [] ∧ b.all isD = true
theorem no47 {a : Tx} (h : a.all isD = true) : 47 ∉ a := fun hm => by
  have := List.all_eq_true.mp h 47 hm
  cases this
theorem num_iff (p : Tx) : (decide ((parts p).length < 3) && (parts p).all fun q => q != [] && q.all isD) = true ↔ Num p := by
  constructor
  · intro h
    rw [Bool.and_eq_true, decide_eq_true_eq, List.all_eq_true] at h
    obtain ⟨h1, h2⟩ := h
    by_cases hm : 47 ∈ p
    · obtain ⟨a, b, rfl, ha⟩ := first_cut hm
      have e : parts (a ++ 47 :: b) = a :: parts b := spl_cut ha
      rw [e] at h1 h2
      by_cases hb : 47 ∈ b
      · obtain ⟨x, y, rfl, hx⟩ := first_cut hb
        have e2 : parts (x ++ 47 :: y) = x :: parts y := spl_cut hx
        rw [e2] at h1
        have := List.length_pos_iff.mpr (spl_ne 47 y [])
        simp only [List.length_cons] at h1
        have h3 : 0 < (parts y).length := this
        omega
      · have e2 : parts b = [b] := spl_free1 hb
        rw [e2] at h2
        have q1 := h2 a (by simp)
        have q2 := h2 b (by simp)
        simp at q1 q2
        exact .inr ⟨a, b, rfl, q1.1, by simpa using q1.2, q2.1, by simpa using q2.2⟩
    · have e : parts p = [p] := spl_free1 hm
      rw [e] at h2
      have q := h2 p (by simp)
      simp at q
      exact .inl ⟨q.1, by simpa using q.2⟩
  · rintro (⟨h1, h2⟩ | ⟨a, b, rfl, h1, h2, h3, h4⟩)
    · have e : parts p = [p] := spl_free1 (no47 h2)
      rw [e]; simp [h1]; simpa using h2
    · have e : parts (a ++ 47 :: b) = a :: parts b := spl_cut (no47 h2)
      have e2 : parts b = [b] := spl_free1 (no47 h4)
      rw [e, e2]; simp [h1, h3]
      exact ⟨by simpa using h2, by simpa using h4⟩
theorem mark_iff (p : Tx) : isMark p = true ↔ p.length = 1 ∨ p = [62, 61] ∨ p = [60, 61] ∨ p.all isL = true ∨ Num p := by
  unfold isMark
  rw [Bool.or_eq_true, Bool.or_eq_true, Bool.or_eq_true, Bool.or_eq_true, num_iff, decide_eq_true_eq, beq_iff_eq, beq_iff_eq, or_assoc]
theorem ld {c : Nat} (h : isL c = true) : isD c = false := by
  unfold isL at h; unfold isD
  rw [Bool.and_eq_true, decide_eq_true_eq, decide_eq_true_eq] at h
  rw [Bool.and_eq_false_iff, decide_eq_false_iff_not, decide_eq_false_iff_not]; right; omega
theorem num_head {c : Nat} {r : Tx} (h : Num (c :: r)) : isD c = true := by
  rcases h with ⟨_, h⟩ | ⟨a, b, e, h1, h2, _⟩
  · rw [List.all_cons, Bool.and_eq_true] at h; exact h.1
  · cases a with
    | nil => exact absurd rfl h1
    | cons d a =>
      rw [List.cons_append] at e
      have := (List.cons.inj e).1
      subst this
      rw [List.all_cons, Bool.and_eq_true] at h2; exact h2.1
theorem take_run_all (p : Nat → Bool) (l : Tx) {s : Nat} (h : s ≤ run p l) : (l.take s).all p = true := by
  rw [List.all_eq_true]
  intro c hm
  obtain ⟨i, hi⟩ := List.getElem?_of_mem hm
  have hlt : i < (l.take s).length := (List.getElem?_eq_some_iff.mp hi).1
  rw [List.length_take] at hlt
  rw [List.getElem?_take_of_lt (by omega)] at hi
  exact run_all p l i c (by omega) hi
theorem all_take_run {p : Nat → Bool} {l : Tx} {s : Nat} (hs : s ≤ l.length) (h : (l.take s).all p = true) : s ≤ run p l := by
  refine run_ge p l s hs fun i c hi e => ?_
  refine List.all_eq_true.mp h c ?_
  rw [← List.getElem?_take_of_lt hi] at e
  exact List.mem_of_getElem? e
/-- what the law's size asks of a mark's length -/
structure SizeOk (l : Tx) (n : Nat) : Prop where
  pos : 1 ≤ n
  le : n ≤ l.length
  at_ : n = 1 ∨ isMark (l.take n) = true
  over : ∀ s, n < s → s ≤ l.length → isMark (l.take s) = false
  below : ∀ s, 2 ≤ s → s ≤ n → isMark (l.take s) = true ∨ l[s - 1]? = some 47
theorem not_mark {p : Tx} (h1 : p.length ≠ 1) (h2 : p ≠ [62, 61]) (h3 : p ≠ [60, 61]) (h4 : p.all isL = true → False) (h5 : Num p → False) : isMark p = false := by
  cases e : isMark p with
  | false => rfl
  | true =>
    rcases (mark_iff p).mp e with h | h | h | h | h
    · exact absurd h h1
    · exact absurd h h2
    · exact absurd h h3
    · exact (h4 h).elim
    · exact (h5 h).elim
theorem head_take {c : Nat} {r : Tx} {s : Nat} (h : 1 ≤ s) : ∃ q, (c :: r).take s = c :: q := ⟨_, take_cons_pos h⟩
theorem size_letter {c : Nat} {r : Tx} (h : isL c = true) : SizeOk (c :: r) (run isL (c :: r)) := by
  have hp : 1 ≤ run isL (c :: r) := by rw [run_cons, if_pos h]; omega
  have hb : ∀ s, s ≤ run isL (c :: r) → isMark ((c :: r).take s) = true := fun s hs => (mark_iff _).mpr (.inr (.inr (.inr (.inl (take_run_all isL _ hs)))))
  refine ⟨hp, run_le _ _, .inr (hb _ (Nat.le_refl _)), fun s h1 h2 => ?_, fun s _ h2 => .inl (hb s h2)⟩
  obtain ⟨q, e⟩ := head_take (c := c) (r := r) (s := s) (by omega)
  refine not_mark (by rw [List.length_take]; omega) ?_ ?_ (fun a => ?_) (fun z => ?_)
  · rw [e]; intro z; rw [(List.cons.inj z).1] at h; cases h
  · rw [e]; intro z; rw [(List.cons.inj z).1] at h; cases h
  · have := all_take_run h2 a; omega
  · rw [e] at z; have := num_head z; rw [ld h] at this; cases this
theorem size_digit {c : Nat} {r : Tx} (h0 : isL c = false) (h : isD c = true) : SizeOk (c :: r) (numLen (c :: r)) := by
  have hp := numLen_pos (r := r) h
  have hr : run isD (c :: r) ≤ numLen (c :: r) := by
    unfold numLen; split
    · split <;> omega
    · exact Nat.le_refl _
  have hle := numLen_le (c :: r)
  have dig : ∀ s, 1 ≤ s → s ≤ run isD (c :: r) → isMark ((c :: r).take s) = true := fun s h1 hs => (mark_iff _).mpr (.inr (.inr (.inr (.inr (.inl ⟨by rw [take_cons_pos h1]; simp, take_run_all isD _ hs⟩)))))
  have long : ∀ s, run isD (c :: r) + 1 < s → s ≤ numLen (c :: r) → isMark ((c :: r).take s) = true := fun s h1 hs => by
    refine (mark_iff _).mpr (.inr (.inr (.inr (.inr (.inr ?_)))))
    have q : (c :: r)[run isD (c :: r)]? = some 47 := by
      by_cases q : (c :: r)[run isD (c :: r)]? = some 47
      · exact q
      · have : numLen (c :: r) = run isD (c :: r) := by unfold numLen; rw [if_neg q]
        omega
    have hlt : run isD (c :: r) < (c :: r).length := (List.getElem?_eq_some_iff.mp q).1
    have q2 : (c :: r)[run isD (c :: r)] = 47 := (List.getElem?_eq_some_iff.mp q).2
    have p2 : 0 < run isD ((c :: r).drop (run isD (c :: r) + 1)) := by
      by_cases p : 0 < run isD ((c :: r).drop (run isD (c :: r) + 1))
      · exact p
      · have : numLen (c :: r) = run isD (c :: r) := by unfold numLen; rw [if_pos q, if_neg p]
        omega
    have e : numLen (c :: r) = run isD (c :: r) + 1 + run isD ((c :: r).drop (run isD (c :: r) + 1)) := by unfold numLen; rw [if_pos q, if_pos p2]
    have hd1 : 1 ≤ run isD (c :: r) := by rw [run_cons, if_pos h]; omega
    refine ⟨(c :: r).take (run isD (c :: r)), ((c :: r).drop (run isD (c :: r) + 1)).take (s - (run isD (c :: r) + 1)), ?_, by rw [take_cons_pos hd1]; simp, take_run_all isD _ (Nat.le_refl _), ?_, take_run_all isD _ (by omega)⟩
    · have e1 : (c :: r).take s = (c :: r).take (run isD (c :: r)) ++ ((c :: r).drop (run isD (c :: r))).take (s - run isD (c :: r)) := by
        rw [← List.drop_take]
        have : (c :: r).take (run isD (c :: r)) = ((c :: r).take s).take (run isD (c :: r)) := by rw [List.take_take, Nat.min_eq_left (by omega)]
        rw [this, List.take_append_drop]
      rw [e1, List.drop_eq_getElem_cons hlt, q2, @take_cons_pos 47 _ (s - run isD (c :: r)) (by omega)]
      rw [show s - run isD (c :: r) - 1 = s - (run isD (c :: r) + 1) by omega]
    · have : 0 < (((c :: r).drop (run isD (c :: r) + 1)).take (s - (run isD (c :: r) + 1))).length := by
        have h3 := run_le isD ((c :: r).drop (run isD (c :: r) + 1))
        rw [List.length_take]; omega
      exact List.length_pos_iff.mp this
  have cases_n : numLen (c :: r) = run isD (c :: r) ∨ (run isD (c :: r) + 1 < numLen (c :: r) ∧ (c :: r)[run isD (c :: r)]? = some 47) := by
    unfold numLen
    split
    · rename_i q; split
      · right; exact ⟨by omega, q⟩
      · exact .inl rfl
    · exact .inl rfl
  refine ⟨hp, hle, ?_, fun s h1 h2 => ?_, fun s h1 h2 => ?_⟩
  · rcases cases_n with e | ⟨e, _⟩
    · rw [e]; exact .inr (dig _ (by omega) (Nat.le_refl _))
    · exact .inr (long _ e (Nat.le_refl _))
  · obtain ⟨q, e⟩ := head_take (c := c) (r := r) (s := s) (by omega)
    refine not_mark (by rw [List.length_take]; omega) ?_ ?_ (fun a => ?_) (fun z => ?_)
    · rw [e]; intro z; rw [(List.cons.inj z).1] at h; cases h
    · rw [e]; intro z; rw [(List.cons.inj z).1] at h; cases h
    · rw [e, List.all_cons, h0] at a; cases a
    · rcases z with ⟨_, a⟩ | ⟨a, b, e2, a1, a2, b1, b2⟩
      · have := all_take_run h2 a; omega
      · have hl : ((c :: r).take s).length = s := by rw [List.length_take]; omega
        have hs : s = a.length + (b.length + 1) := by rw [← hl, e2, List.length_append, List.length_cons]
        have hb1 : 0 < b.length := List.length_pos_iff.mpr b1
        have get : ∀ i, i < s → (c :: r)[i]? = (a ++ 47 :: b)[i]? := fun i hi => by rw [← e2, List.getElem?_take_of_lt hi]
        have er : run isD (c :: r) = a.length := by
          refine run_eq (by omega) (fun i x hi ex => ?_) (fun x ex => ?_)
          · rw [get i (by omega), List.getElem?_append_left hi] at ex
            exact List.all_eq_true.mp a2 x (List.mem_of_getElem? ex)
          · rw [get _ (by omega), List.getElem?_append_right (Nat.le_refl _)] at ex
            simp at ex; subst ex; rfl
        have q47 : (c :: r)[run isD (c :: r)]? = some 47 := by
          rw [er, get _ (by omega), List.getElem?_append_right (Nat.le_refl _)]; simp
        have rb : b.length ≤ run isD ((c :: r).drop (run isD (c :: r) + 1)) := by
          refine run_ge isD _ _ (by rw [List.length_drop]; omega) fun i x hi ex => ?_
          rw [List.getElem?_drop, er, get _ (by omega), List.getElem?_append_right (by omega)] at ex
          rw [show a.length + 1 + i - a.length = i + 1 by omega, List.getElem?_cons_succ] at ex
          exact List.all_eq_true.mp b2 x (List.mem_of_getElem? ex)
        have : numLen (c :: r) = run isD (c :: r) + 1 + run isD ((c :: r).drop (run isD (c :: r) + 1)) := by unfold numLen; rw [if_pos q47, if_pos (by omega)]
        omega
  · by_cases a : s ≤ run isD (c :: r)
    · exact .inl (dig s (by omega) a)
    · by_cases b : s = run isD (c :: r) + 1
      · rcases cases_n with e | ⟨_, e⟩
        · omega
        · right; rw [b]; exact e
      · exact .inl (long s (by omega) h2)
theorem size_ok {l : Tx} (hl : l ≠ []) : SizeOk l (markLen l) := by
  cases l with
  | nil => exact absurd rfl hl
  | cons c r =>
    by_cases h1 : isL c = true
    · rw [markLen_cons, if_pos h1]; exact size_letter h1
    · have h1' : isL c = false := by simpa using h1
      by_cases h2 : isD c = true
      · rw [markLen_cons, if_neg h1, if_pos h2]; exact size_digit h1' h2
      · have h2' : isD c = false := by simpa using h2
        have noL : ∀ s, 1 ≤ s → ((c :: r).take s).all isL = true → False := fun s hs a => by
          rw [take_cons_pos hs, List.all_cons, h1'] at a; cases a
        have noN : ∀ s, 1 ≤ s → Num ((c :: r).take s) → False := fun s hs a => by
          rw [take_cons_pos hs] at a; have := num_head a; rw [h2'] at this; cases this
        by_cases h3 : (c = 62 ∨ c = 60) ∧ r[0]? = some 61
        · rw [markLen_cons, if_neg h1, if_neg h2, if_pos h3]
          cases r with
          | nil => simp at h3
          | cons d q =>
            have hd : d = 61 := by simpa using h3.2
            subst hd
            have e2 : isMark ((c :: 61 :: q).take 2) = true := by
              show isMark [c, 61] = true
              rcases h3.1 with rfl | rfl
              · exact (mark_iff _).mpr (.inr (.inl rfl))
              · exact (mark_iff _).mpr (.inr (.inr (.inl rfl)))
            refine ⟨by omega, by simp, .inr e2, fun s a b => ?_, fun s a b => ?_⟩
            · have hlen : ((c :: 61 :: q).take s).length = s := by rw [List.length_take]; omega
              refine not_mark (by omega) ?_ ?_ (noL s (by omega)) (noN s (by omega))
              · intro z; rw [z] at hlen; simp at hlen; omega
              · intro z; rw [z] at hlen; simp at hlen; omega
            · have : s = 2 := by omega
              subst this; exact .inl e2
        · rw [markLen_cons, if_neg h1, if_neg h2, if_neg h3]
          refine ⟨by omega, by simp, .inl rfl, fun s a b => ?_, fun s a b => by omega⟩
          have hlen : ((c :: r).take s).length = s := by rw [List.length_take]; omega
          have key : ∀ x, (x = 62 ∨ x = 60) → (c :: r).take s ≠ [x, 61] := fun x hx z => by
            rw [z] at hlen
            have hs : s = 2 := by simpa using hlen.symm
            subst hs
            cases r with
            | nil => simp at b
            | cons d q =>
              have z2 : [c, d] = [x, 61] := z
              have ec := (List.cons.inj z2).1
              have ed := (List.cons.inj (List.cons.inj z2).2).1
              exact h3 ⟨by rw [ec]; exact hx, by rw [ed]; rfl⟩
          exact not_mark (by omega) (key 62 (.inl rfl)) (key 60 (.inr rfl)) (noL s (by omega)) (noN s (by omega))
/-! ### what stands before the first blank -/
def room (l : Tx) : Tx := l.takeWhile (· != 32)
theorem room_cut : ∀ l : Tx, l = room l ∨ ∃ r, l = room l ++ 32 :: r
  | [] => .inl rfl
  | c :: r => by
    by_cases h : c = 32
    · right; exact ⟨r, by subst h; rfl⟩
    · have e : room (c :: r) = c :: room r := by
        unfold room; rw [List.takeWhile_cons_of_pos (by simpa using h)]
      rcases room_cut r with z | ⟨q, z⟩
      · left; rw [e, ← z]
      · right; exact ⟨q, by rw [e]; rw [List.cons_append, ← z]⟩
theorem room_free : ∀ l : Tx, 32 ∉ room l
  | [] => by simp [room]
  | c :: r => by
    by_cases h : c = 32
    · subst h; have : room (32 :: r) = [] := rfl
      rw [this]; simp
    · have e : room (c :: r) = c :: room r := by
        unfold room; rw [List.takeWhile_cons_of_pos (by simpa using h)]
      rw [e, List.mem_cons, not_or]
      exact ⟨fun z => h z.symm, room_free r⟩
theorem room_spl (l : Tx) : (TL.spl [32] 0 [] l)[0]? = some (room l) := by
  have hf := room_free l
  rcases room_cut l with z | ⟨r, z⟩
  · have : TL.spl [32] 0 [] l = [room l] := by
      conv => lhs; rw [z]
      exact spl_free1 hf
    rw [this]; rfl
  · have : TL.spl [32] 0 [] l = room l :: TL.spl [32] 0 [] r := by
      conv => lhs; rw [z]
      exact spl_cut hf
    rw [this]; rfl
def sizeOf (l : Tx) : Nat := if l = [] then 1 else markLen l
theorem size_room {l : Tx} (hl : l ≠ []) : sizeOf (room l) = markLen l := by
  unfold sizeOf
  rcases room_cut l with z | ⟨r, z⟩
  · rw [← z, if_neg hl]
  · by_cases e : room l = []
    · rw [if_pos e]
      rw [e] at z; rw [z]
      show 1 = markLen (32 :: r)
      rw [markLen_cons, if_neg (by decide), if_neg (by decide), if_neg (by simp)]
    · rw [if_neg e]
      conv => rhs; rw [z]
      exact (markLen_app dl32 e r).symm
/-! ### lines -/
def lines (l : Tx) : List Tx := TL.spl [10] 0 [] l
def cutAll : Nat → List Tx → List Mk
  | _, [] => []
  | k, [l] => lex k 0 l
  | k, l :: m :: r => lex k 0 l ++ (k, l.length, [10]) :: cutAll (k + 1) (m :: r)
theorem cutAll_cons (k : Nat) (l : Tx) {r : List Tx} (h : r ≠ []) : cutAll k (l :: r) = lex k 0 l ++ (k, l.length, [10]) :: cutAll (k + 1) r := by
  cases r with
  | nil => exact absurd rfl h
  | cons m r => rfl
theorem lex_lines : ∀ (n : Nat) (l : Tx) (k : Nat), l.length ≤ n → lex k 0 l = cutAll k (lines l) := by
  intro n
  induction n with
  | zero =>
    intro l k h
    have : l = [] := List.length_eq_zero_iff.mp (by omega)
    subst this; rfl
  | succ n ih =>
    intro l k h
    by_cases hm : 10 ∈ l
    · obtain ⟨a, b, rfl, ha⟩ := first_cut hm
      have e : lines (a ++ 10 :: b) = a :: lines b := spl_cut ha
      rw [e, cutAll_cons k a (show lines b ≠ [] from spl_ne 10 b []), lex_end dl10, lex_nl, endCol_free a 0 ha]
      have hc : cnt a = 0 := List.count_eq_zero_of_not_mem ha
      rw [hc, ih b (k + 1) (by rw [List.length_append, List.length_cons] at h; omega)]
      simp
    · have e : lines l = [l] := spl_free1 hm
      rw [e]; rfl
theorem lines_free : ∀ (n : Nat) (l : Tx), l.length ≤ n → ∀ x ∈ lines l, 10 ∉ x := by
  intro n
  induction n with
  | zero =>
    intro l h x hx
    have : l = [] := List.length_eq_zero_iff.mp (by omega)
    subst this
    have : x = [] := by simpa [lines, TL.spl_nil] using hx
    subst this; simp
  | succ n ih =>
    intro l h x hx
    by_cases hm : 10 ∈ l
    · obtain ⟨a, b, rfl, ha⟩ := first_cut hm
      have e : lines (a ++ 10 :: b) = a :: lines b := spl_cut ha
      rw [e] at hx
      rcases List.mem_cons.mp hx with z | z
      · rw [z]; exact ha
      · exact ih b (by rw [List.length_append, List.length_cons] at h; omega) x z
    · have e : lines l = [l] := spl_free1 hm
      rw [e] at hx
      rw [List.mem_singleton.mp hx]; exact hm
theorem lines_len : ∀ (n : Nat) (l : Tx), l.length ≤ n → (lines l).length ≤ l.length + 1 ∧ ∀ x ∈ lines l, x.length ≤ l.length := by
  intro n
  induction n with
  | zero =>
    intro l h
    have : l = [] := List.length_eq_zero_iff.mp (by omega)
    subst this
    exact ⟨by simp [lines, TL.spl_nil], fun x hx => by have : x = [] := by simpa [lines, TL.spl_nil] using hx
                                                       subst this; simp⟩
  | succ n ih =>
    intro l h
    by_cases hm : 10 ∈ l
    · obtain ⟨a, b, rfl, ha⟩ := first_cut hm
      have e : lines (a ++ 10 :: b) = a :: lines b := spl_cut ha
      have hb := ih b (by rw [List.length_append, List.length_cons] at h; omega)
      rw [e]
      refine ⟨by simp only [List.length_cons, List.length_append]; omega, fun x hx => ?_⟩
      rcases List.mem_cons.mp hx with z | z
      · rw [z, List.length_append]; omega
      · have := hb.2 x z
        simp only [List.length_cons, List.length_append]; omega
    · have e : lines l = [l] := spl_free1 hm
      rw [e]
      exact ⟨by simp, fun x hx => by rw [List.mem_singleton.mp hx]; omega⟩
def linePart (n j : Nat) (l : Tx) : List Mk := lex j 0 l ++ (if j + 1 < n then [(j, l.length, [10])] else [])
def cutUpto (ls : List Tx) : Nat → List Mk
  | 0 => []
  | i + 1 => cutUpto ls i ++ linePart ls.length i (ls.getD i [])
theorem cutUpto_all (ls : List Tx) : ∀ i, i ≤ ls.length → cutUpto ls i ++ cutAll i (ls.drop i) = cutAll 0 ls
  | 0, _ => rfl
  | i + 1, h => by
    have ih := cutUpto_all ls i (by omega)
    have hlt : i < ls.length := by omega
    rw [List.drop_eq_getElem_cons hlt] at ih
    have eg : ls.getD i [] = ls[i] := by simp [List.getD, List.getElem?_eq_getElem hlt]
    show (cutUpto ls i ++ linePart ls.length i (ls.getD i [])) ++ cutAll (i + 1) (ls.drop (i + 1)) = _
    rw [← ih, eg, List.append_assoc]
    refine congrArg (_ ++ ·) ?_
    unfold linePart
    by_cases hn : i + 1 < ls.length
    · rw [if_pos hn, cutAll_cons i _ (by intro z; have := List.drop_eq_nil_iff.mp z; omega), List.append_assoc]; rfl
    · have : ls.drop (i + 1) = [] := List.drop_eq_nil_of_le (by omega)
      rw [if_neg hn, this]
      show (lex i 0 ls[i] ++ []) ++ [] = lex i 0 ls[i]
      rw [List.append_nil, List.append_nil]
theorem cut_is_lex (l : Tx) : cutUpto (lines l) (lines l).length = lex 0 0 l := by
  have := cutUpto_all (lines l) (lines l).length (Nat.le_refl _)
  rw [List.drop_length] at this
  rw [lex_lines l.length l 0 (Nat.le_refl _), ← this]
  show _ = _ ++ []
  rw [List.append_nil]
/-! ### marks stand where they are told to -/
theorem lex_at (j : Nat) : ∀ (l pre : Tx), 10 ∉ l → ∀ k ∈ lex j pre.length l, k.1 = j ∧ k.2.1 + k.2.2.length ≤ pre.length + l.length ∧ ((pre ++ l).drop k.2.1).take k.2.2.length = k.2.2 := by
  intro l
  refine by_marks (P := fun l => ∀ pre : Tx, 10 ∉ l → ∀ k ∈ lex j pre.length l, k.1 = j ∧ k.2.1 + k.2.2.length ≤ pre.length + l.length ∧ ((pre ++ l).drop k.2.1).take k.2.2.length = k.2.2) ?_ ?_ ?_ ?_ l.length l (Nat.le_refl _)
  · intro pre _ k h; simp [lex_nil] at h
  · intro r ih pre hf k h
    rw [lex_sp] at h
    have := ih (pre ++ [32]) (fun z => hf (List.mem_cons_of_mem _ z)) k (by rw [List.length_append]; exact h)
    rw [List.length_append, List.append_assoc] at this
    refine ⟨this.1, by have := this.2.1; simp only [List.length_cons, List.length_nil] at this ⊢; omega, this.2.2⟩
  · intro r _ pre hf
    exact absurd (List.mem_cons_self ..) hf
  · intro c r h1 h2 ih pre hf k h
    have hle := markLen_le (List.cons_ne_nil c r)
    rw [lex_mk _ _ h1 h2] at h
    rcases List.mem_cons.mp h with e | e
    · subst e
      refine ⟨rfl, ?_, ?_⟩
      · show pre.length + ((c :: r).take (markLen (c :: r))).length ≤ _
        rw [List.length_take]; omega
      · show ((pre ++ c :: r).drop pre.length).take ((c :: r).take (markLen (c :: r))).length = _
        rw [List.drop_left, List.length_take, Nat.min_eq_left hle]
    · have := ih (pre ++ (c :: r).take (markLen (c :: r))) (fun z => hf (List.mem_of_mem_drop z)) k (by rw [List.length_append, List.length_take, Nat.min_eq_left hle]; exact e)
      rw [List.append_assoc, List.take_append_drop] at this
      refine ⟨this.1, ?_, this.2.2⟩
      have := this.2.1
      rw [List.length_append, List.length_take, List.length_drop] at this
      omega
theorem cutAll_at : ∀ (ls : List Tx) (j : Nat), (∀ x ∈ ls, 10 ∉ x) → ∀ k ∈ cutAll j ls, j ≤ k.1 ∧ ∃ x, ls[k.1 - j]? = some x ∧ k.2.1 + k.2.2.length ≤ x.length + 1 ∧ ((x ++ [10]).drop k.2.1).take k.2.2.length = k.2.2
  | [], j, _, k, h => by simp [cutAll] at h
  | [l], j, hf, k, h => by
    have := lex_at j l [] (hf l (by simp)) k h
    obtain ⟨e1, e2, e3⟩ := this
    refine ⟨by omega, l, by rw [e1, Nat.sub_self]; rfl, by simp at e2; omega, ?_⟩
    have e4 : k.2.1 + k.2.2.length ≤ l.length := by simpa using e2
    rw [List.drop_append_of_le_length (by omega), List.take_append_of_le_length (by rw [List.length_drop]; omega)]
    exact e3
  | l :: m :: r, j, hf, k, h => by
    rw [cutAll_cons j l (List.cons_ne_nil m r)] at h
    rcases List.mem_append.mp h with h | h
    · have := lex_at j l [] (hf l (by simp)) k h
      obtain ⟨e1, e2, e3⟩ := this
      refine ⟨by omega, l, by rw [e1, Nat.sub_self]; rfl, by simp at e2; omega, ?_⟩
      have e4 : k.2.1 + k.2.2.length ≤ l.length := by simpa using e2
      rw [List.drop_append_of_le_length (by omega), List.take_append_of_le_length (by rw [List.length_drop]; omega)]
      exact e3
    · rcases List.mem_cons.mp h with e | h
      · subst e
        refine ⟨Nat.le_refl _, l, by rw [Nat.sub_self]; rfl, by simp, ?_⟩
        show ((l ++ [10]).drop l.length).take 1 = [10]
        rw [List.drop_left]; rfl
      · obtain ⟨e1, x, e2, e3⟩ := cutAll_at (m :: r) (j + 1) (fun x hx => hf x (List.mem_cons_of_mem _ hx)) k h
        refine ⟨by omega, x, ?_, e3⟩
        rw [show k.1 - j = (k.1 - (j + 1)) + 1 by omega]
        exact e2
theorem stands (l : Tx) : ∀ k ∈ lex 0 0 l, ∃ x, (lines l)[k.1]? = some x ∧ k.2.1 + k.2.2.length ≤ x.length + 1 ∧ ((x ++ [10]).drop k.2.1).take k.2.2.length = k.2.2 := by
  intro k h
  rw [lex_lines l.length l 0 (Nat.le_refl _)] at h
  exact (cutAll_at (lines l) 0 (lines_free l.length l (Nat.le_refl _)) k h).2
end M06

namespace M06
open PySem PySem.Spec PyProof.Rows L2 SX
def topS (i : Nat) : Stmt := PySem.Challenge.pw_paperbest_k06_marks_cut_and_joined.main.body.getD i (.Pass ⟨0, 0, 0, 0⟩)
def LET : Tx := "abcdefghijklmnopqrstuvwxyz".toList.map Char.toNat
def DIG : Tx := "0123456789".toList.map Char.toNat
/-- what the text's top has: built-in names, constants -/
structure Txt6 (mg : Str → Option Value) : Prop where
  b_len : mg "len" = none
  b_range : mg "range" = none
  b_int : mg "int" = none
  b_abs : mg "abs" = none
  b_all : mg "all" = none
  b_any : mg "any" = none
  b_sum : mg "sum" = none
  b_tuple : mg "tuple" = none
  b_list : mg "list" = none
  b_str : mg "str" = none
  b_bool : mg "bool" = none
  b_isinstance : mg "isinstance" = none
  c_LETTERS : ∃ u, mg "LETTERS" = some u ∧ RelV (.str (S LET)) u
  c_DIGITS : ∃ u, mg "DIGITS" = some u ∧ RelV (.str (S DIG)) u
theorem sl6 {n : Nat} (h : n ≤ 100000) : n ≤ sizeLine := Nat.le_trans h (by decide)
section
variable {P : Program} {w : World} {K : PySem.W.Frag} {mg : Str → Option Value} {base : Heap}
abbrev s_run_end : Stmt := topS 5
theorem sc_run_end : FnScope ["text", "start", "signs", "end"] ["text", "start", "signs"] (defScope s_run_end) := ⟨rfl, rfl, rfl, by decide +kernel, rfl, by decide +kernel, by decide +kernel⟩
def inL (g : Tx) (c : Nat) : Bool := decide (c ∈ g)
def spRun : Sp := fun vs H Q _ => ∃ (l g : Tx) (i : Nat), vs = [.str (S l), .int i, .str (S g)] ∧ i ≤ l.length ∧ l.length ≤ 100000 ∧ Q (.int ((i + run (inL g) (l.drop i) : Nat) : Int)) H
theorem ok_run_end {f : Addr} {fd : FuncData} (F : Fun K "_run_end" "_run_end" s_run_end f fd) (T : Txt6 mg) : FnOk P w K mg base CX0 1 f fd ["text", "start", "signs"] spRun := by
  refine F.ok sc_run_end (fun vs H Q E h => ?_) (fun cdv A outer s H vs Q E hr h => ?_)
  · obtain ⟨l, g, i, rfl, _⟩ := h
    rfl
  · obtain ⟨l, g, i, rfl, hi, hl, q⟩ := h
    refine ⟨_, (pss_cons (ps_set (i := 3) sc_run_end.nd rfl (.inl rfl) (pv 1))
      (pss_cons (ps_while PassesOwn.never (PW.pt (pw_and (pt_cmpR op_lt (pv 3) (pe_callB call_len_str (by rfl) T.b_len (by decide +kernel) (pa_cons (pv 0) pa_nil)) (nomark _)) (pw_and1 (pt_cmpR op_in_sign (pe_ix ix_str (pv 0) (pv 3) (fun _ _ => rfl)) (pv 2) (by rfl))))) (pss_one (ps_aug (i := 3) sc_run_end.nd rfl (.inl rfl) pe_int ip_add)))
      (pss_one (ps_ret (pv 3))))), ?_⟩
    refine ⟨_, rfl, ?_⟩
    refine ⟨fun m σ H' => ∃ j : Nat, σ = [some (.str (S l)), some (.int (i : Int)), some (.str (S g)), some (.int (j : Int))] ∧ H' = H ∧ j ≤ l.length ∧ j + run (inL g) (l.drop j) = i + run (inL g) (l.drop i) ∧ m = l.length - j, ⟨_, i, rfl, rfl, hi, rfl, rfl⟩, fun m σ H' hW => ?_⟩
    obtain ⟨j, rfl, rfl, hj, er, rfl⟩ := hW
    refine ⟨_, rfl, _, rfl, _, rfl, (by rw [S_len]; exact sl6 hl), _, _, rfl, rfl, _, rfl, ite2 (fun hlt => ?_) (fun hge => ?_)⟩
    · rw [S_len] at hlt
      have hlt : j < l.length := by have := of_decide_eq_true hlt; omega
      refine ⟨_, rfl, _, rfl, S l, (j : Int), l[j], rfl, rfl, (by rw [S_len]; exact sl6 hl), atI_nat (List.getElem?_eq_getElem hlt), _, rfl, _, _, rfl, rfl, _, rfl, ite2 (fun hin => ?_) (fun hout => ?_)⟩
      · have hin : inL g l[j] = true := hin
        refine ⟨fun σ' H' => ∃ m', m' < l.length - j ∧ _, fun _ _ z => z, ?_⟩
        refine ⟨_, rfl, _, _, rfl, rfl, l.length - (j + 1), by omega, j + 1, rfl, rfl, by omega, ?_, rfl⟩
        rw [← er, List.drop_eq_getElem_cons hlt, run_cons, if_pos hin]; omega
      · have hout : ¬ inL g l[j] = true := hout
        refine ⟨_, rfl, ?_⟩
        rw [← er, List.drop_eq_getElem_cons hlt, run_cons, if_neg hout] at q
        exact q
    · rw [S_len] at hge
      have hge : ¬ j < l.length := fun z => hge (decide_eq_true (by omega))
      refine iteF ⟨_, rfl, ?_⟩
      rw [← er, List.drop_eq_nil_of_le (by omega)] at q
      exact q
end
end M06

namespace M06
open PySem PySem.Spec PyProof.Rows L2 SX
open C8 (Cal pe_c pe_gc)
/-! ### small facts -/
theorem cut_mid (a : Tx) (i j : Nat) : cutS (S a) (some (i : Int)) (some (j : Int)) = S ((a.drop i).take (j - i)) := by
  refine TL.ext_tl ?_
  show (a.drop (HT.sIx (S a).length 0 (some (i : Int)))).take (HT.sIx (S a).length (S a).length (some (j : Int)) - HT.sIx (S a).length 0 (some (i : Int))) = (a.drop i).take (j - i)
  rw [HT.sIx_nat, HT.sIx_nat, S_len]
  by_cases h : i ≤ a.length
  · rw [Nat.min_eq_left h]
    by_cases h2 : j ≤ a.length
    · rw [Nat.min_eq_left h2]
    · rw [Nat.min_eq_right (by omega), List.take_of_length_le (by rw [List.length_drop]; omega), List.take_of_length_le (by rw [List.length_drop]; omega)]
  · rw [Nat.min_eq_right (show a.length ≤ i by omega), List.drop_length, List.drop_eq_nil_of_le (show a.length ≤ i by omega)]
    simp
theorem cut_to (a : Tx) (j : Nat) : cutS (S a) none (some (j : Int)) = S (a.take j) := by
  have := cut_mid a 0 j
  rw [List.drop_zero, Nat.sub_zero] at this
  exact this
theorem cut_from (a : Tx) (i : Nat) : cutS (S a) (some (i : Int)) none = S (a.drop i) := by
  have h := cut_mid a i a.length
  rw [List.take_of_length_le (by rw [List.length_drop]; omega)] at h
  rw [← h]
  refine TL.ext_tl ?_
  show (a.drop (HT.sIx (S a).length 0 (some (i : Int)))).take (HT.sIx (S a).length (S a).length none - HT.sIx (S a).length 0 (some (i : Int))) = (a.drop (HT.sIx (S a).length 0 (some (i : Int)))).take (HT.sIx (S a).length (S a).length (some (a.length : Int)) - HT.sIx (S a).length 0 (some (i : Int)))
  have e : HT.sIx (S a).length (S a).length none = HT.sIx (S a).length (S a).length (some (a.length : Int)) := by
    rw [HT.sIx_none, HT.sIx_nat, S_len, Nat.min_self]
  rw [e]
theorem str_eq {x y : Tx} {z : Str} (hz : z = S y) : (V.str (S x) = V.str z) ↔ x = y := by
  subst hz
  exact ⟨fun e => S_inj (V.str.inj e), fun e => by rw [e]⟩
theorem z47 : (Str.ofString "/") = S [47] := by decide +kernel
theorem z32 : (Str.ofString " ") = S [32] := by decide +kernel
theorem z10 : (Str.ofString "\n") = S [10] := by decide +kernel
theorem z0 : (Str.ofString "") = S [] := by decide +kernel
theorem zge : (Str.ofString ">=") = S [62, 61] := by decide +kernel
theorem zle : (Str.ofString "<=") = S [60, 61] := by decide +kernel
theorem let_in : inL LET = isL := by
  funext c
  have e : LET = [97, 98, 99, 100, 101, 102, 103, 104, 105, 106, 107, 108, 109, 110, 111, 112, 113, 114, 115, 116, 117, 118, 119, 120, 121, 122] := by decide +kernel
  unfold inL isL
  rw [← Bool.decide_and]
  refine decide_eq_decide.mpr ?_
  rw [e]
  simp only [List.mem_cons, List.not_mem_nil, or_false]
  omega
theorem dig_in : inL DIG = isD := by
  funext c
  have e : DIG = [48, 49, 50, 51, 52, 53, 54, 55, 56, 57] := by decide +kernel
  unfold inL isD
  rw [← Bool.decide_and]
  refine decide_eq_decide.mpr ?_
  rw [e]
  simp only [List.mem_cons, List.not_mem_nil, or_false]
  omega
theorem not_dec {p : Prop} [Decidable p] (h : (!decide p) = true) : ¬ p := by simpa using h
theorem of_not_dec {p : Prop} [Decidable p] (h : ¬ (!decide p) = true) : p := by simpa using h
/-- a def of the text, its name, how it binds -/
structure Df (K : PySem.W.Frag) (mg : Str → Option Value) (x : Str) (st : Stmt) (ps : List Str) : Prop where
  ex : ∃ f fd, Fun K x x st f fd ∧ mg x = some (.ref f) ∧ Binds K fd ps []
section
variable {P : Program} {w : World} {K : PySem.W.Frag} {mg : Str → Option Value} {base : Heap}
theorem cal_of {x : Str} {st : Stmt} {ps : List Str} {k : Nat} {sp : Sp} (D : Df K mg x st ps) (h : ∀ f fd, Fun K x x st f fd → FnOk P w K mg base CX0 k f fd ps sp) : Cal P w K mg base k x sp [] := by
  obtain ⟨f, fd, F, hm, b⟩ := D.ex
  exact ⟨f, fd, ps, [], h f fd F, hm, F.kp, b, .nil⟩
theorem c_run_end (D : Df K mg "_run_end" s_run_end ["text", "start", "signs"]) (T : Txt6 mg) : Cal P w K mg base 1 "_run_end" spRun [] := cal_of D fun _ _ F => ok_run_end F T
abbrev s_numeral_end : Stmt := topS 6
theorem sc_numeral_end : FnScope ["text", "start", "end", "behind"] ["text", "start"] (defScope s_numeral_end) := ⟨rfl, rfl, rfl, by decide +kernel, rfl, by decide +kernel, by decide +kernel⟩
def spNum : Sp := fun vs H Q _ => ∃ (l : Tx) (i : Nat), vs = [.str (S l), .int i] ∧ i ≤ l.length ∧ l.length ≤ 100000 ∧ Q (.int ((i + numLen (l.drop i) : Nat) : Int)) H
theorem ok_numeral_end {f : Addr} {fd : FuncData} (F : Fun K "_numeral_end" "_numeral_end" s_numeral_end f fd) (T : Txt6 mg) (c_run_end : Cal P w K mg base 1 "_run_end" spRun []) : FnOk P w K mg base CX0 2 f fd ["text", "start"] spNum := by
  refine F.ok sc_numeral_end (fun vs H Q E h => ?_) (fun cdv A outer s H vs Q E hr h => ?_)
  · obtain ⟨l, i, rfl, _⟩ := h
    rfl
  · obtain ⟨l, i, rfl, hi, hl, q⟩ := h
    refine ⟨_, (pss_cons (ps_set (i := 2) sc_numeral_end.nd rfl (.inl rfl) (pe_c c_run_end hr (by decide) (by rfl) (pa_cons (pv 0) (pa_cons (pv 1) (pa_cons (pe_gc (by rfl) T.c_DIGITS) pa_nil)))))
      (pss_cons (ps_if (pt_cmpR op_ne (pe_slice sl_str (pv 0) (po_some (pv 2)) (po_some (pe_op op_add (pv 2) pe_int))) pe_str (nomark _)) (pss_one (ps_ret (pv 2))) pss_nil)
      (pss_cons (ps_set (i := 3) sc_numeral_end.nd rfl (.inl rfl) (pe_c c_run_end hr (by decide) (by rfl) (pa_cons (pv 0) (pa_cons (pe_op op_add (pv 2) pe_int) (pa_cons (pe_gc (by rfl) T.c_DIGITS) pa_nil)))))
      (pss_one (ps_ret (pe_ifExp (pt_cmpR op_gt (pv 3) (pe_op op_add (pv 2) pe_int) (nomark _)) (pv 3) (pv 2))))))), ?_⟩
    have hle := run_le isD (l.drop i)
    rw [List.length_drop] at hle
    generalize he : run isD (l.drop i) = e at hle
    refine ⟨_, rfl, _, rfl, l, DIG, i, rfl, hi, hl, ?_⟩
    rw [dig_in, he]
    refine ⟨_, rfl, _, rfl, _, rfl, _, rfl, _, _, rfl, rfl, _, rfl, S l, rfl, (by rw [S_len]; exact sl6 hl), rfl, _, rfl, ?_⟩
    rw [show ((i + e : Nat) : Int) + 1 = ((i + e + 1 : Nat) : Int) by omega, cut_mid]
    have key : ((l.drop (i + e)).take (i + e + 1 - (i + e)) = [47]) ↔ (l.drop i)[e]? = some 47 := by
      rw [show i + e + 1 - (i + e) = 1 by omega, List.getElem?_drop]
      cases hq : l.drop (i + e) with
      | nil =>
        have : l.length ≤ i + e := by have := congrArg List.length hq; rw [List.length_drop] at this; simp at this; omega
        rw [List.getElem?_eq_none this]; simp
      | cons c r =>
        have : l[i + e]? = some c := by
          have h := congrArg (fun z : Tx => z[0]?) hq
          simpa using h
        rw [this]; simp
    refine ite2 (fun h => ?_) (fun h => ?_)
    · have h := fun z => not_dec h ((str_eq z47).mpr (key.mpr z))
      refine ⟨_, rfl, ?_⟩
      have : numLen (l.drop i) = e := by unfold numLen; rw [he, if_neg h]
      rw [this] at q; exact q
    · have h := key.mp ((str_eq z47).mp (of_not_dec h))
      have hlt : e < (l.drop i).length := (List.getElem?_eq_some_iff.mp h).1
      rw [List.length_drop] at hlt
      refine ⟨_, rfl, _, rfl, _, _, rfl, rfl, l, DIG, i + e + 1, rfl, by omega, hl, ?_⟩
      rw [dig_in]
      have hn : numLen (l.drop i) = if 0 < run isD (l.drop (i + e + 1)) then e + 1 + run isD (l.drop (i + e + 1)) else e := by
        have e2 : (l.drop i).drop (e + 1) = l.drop (i + e + 1) := by rw [List.drop_drop]; rfl
        unfold numLen; rw [he, if_pos h, e2]
      refine ⟨_, rfl, _, rfl, _, _, rfl, rfl, _, _, rfl, rfl, _, rfl, ite2 (fun hb => ?_) (fun hb => ?_)⟩
      · have hb := of_decide_eq_true hb
        refine ⟨_, rfl, ?_⟩
        rw [hn, if_pos (by omega)] at q
        rw [show i + e + 1 + run isD (l.drop (i + e + 1)) = i + (e + 1 + run isD (l.drop (i + e + 1))) by omega]
        exact q
      · have hb : ¬ _ := fun z => hb (decide_eq_true z)
        refine ⟨_, rfl, ?_⟩
        rw [hn, if_neg (by omega)] at q
        exact q
end
end M06

namespace M06
open PySem PySem.Spec PyProof.Rows L2 SX
open C8 (Cal pe_c pe_gc pss_cut)
theorem len6 {a : Tx} (h : a.length ≤ 100000) : (S a).length ≤ sizeLine := by rw [S_len]; exact sl6 h
theorem same_upd {H : Hp} {p : Addr} {o : HO} (h : H p = none) : Same H (upd H p o) := fun b x e => by
  rw [upd_ne (ne_of_none e h)]; exact e
theorem sq_tup {K : PySem.W.Frag} {H : Hp} {p : Addr} {xs : List V} (h : H p = some (.tup xs)) : SqT K H p xs := .inl (.inl h)
theorem sq_lst {K : PySem.W.Frag} {H : Hp} {p : Addr} {xs : List V} (h : H p = some (.lst xs)) : SqL K H p xs := .inl (.inl h)
theorem two_in (x : Tx) : inV (.str (S x)) [.str (Str.ofString ">="), .str (Str.ofString "<=")] = (x == [62, 61] || x == [60, 61]) := by
  unfold inV
  rw [List.any_cons, List.any_cons, List.any_nil, Bool.or_false]
  show ((Str.ofString ">=" == S x) || (Str.ofString "<=" == S x)) = _
  have c : ∀ a b : Tx, (a == b) = (b == a) := fun a b => by
    rw [Bool.eq_iff_iff, beq_iff_eq, beq_iff_eq]; exact eq_comm
  rw [zge, zle, S_beq, S_beq, c [62, 61] x, c [60, 61] x]
section
variable {P : Program} {w : World} {K : PySem.W.Frag} {mg : Str → Option Value} {base : Heap}
abbrev s_mark_end : Stmt := topS 4
theorem sc_mark_end : FnScope ["text", "start"] ["text", "start"] (defScope s_mark_end) := ⟨rfl, rfl, rfl, by decide +kernel, rfl, by decide +kernel, by decide +kernel⟩
def spMark : Sp := fun vs H Q _ => ∃ (l : Tx) (i : Nat), vs = [.str (S l), .int i] ∧ i < l.length ∧ l.length ≤ 100000 ∧ ∀ H', Same H H' → Q (.int ((i + markLen (l.drop i) : Nat) : Int)) H'
theorem ok_mark_end {f : Addr} {fd : FuncData} (F : Fun K "_mark_end" "_mark_end" s_mark_end f fd) (T : Txt6 mg) (c_run_end : Cal P w K mg base 1 "_run_end" spRun []) (c_numeral_end : Cal P w K mg base 2 "_numeral_end" spNum []) : FnOk P w K mg base CX0 3 f fd ["text", "start"] spMark := by
  refine F.ok sc_mark_end (fun vs H Q E h => ?_) (fun cdv A outer s H vs Q E hr h => ?_)
  · obtain ⟨l, i, rfl, _⟩ := h
    rfl
  · obtain ⟨l, i, rfl, hi, hl, q⟩ := h
    refine ⟨_, (pss_cons (ps_if (pt_cmpR op_in_sign (pe_ix ix_str (pv 0) (pv 1) (fun _ _ => rfl)) (pe_gc (by rfl) T.c_LETTERS) (by rfl)) (pss_one (ps_ret (pe_c c_run_end hr (by decide) (by rfl) (pa_cons (pv 0) (pa_cons (pv 1) (pa_cons (pe_gc (by rfl) T.c_LETTERS) pa_nil)))))) pss_nil)
      (pss_cons (ps_if (pt_cmpR op_in_sign (pe_ix ix_str (pv 0) (pv 1) (fun _ _ => rfl)) (pe_gc (by rfl) T.c_DIGITS) (by rfl)) (pss_one (ps_ret (pe_c c_numeral_end hr (by decide) (by rfl) (pa_cons (pv 0) (pa_cons (pv 1) pa_nil))))) pss_nil)
      (pss_cons (ps_if (pt_cmpR op_in_seq (pe_slice sl_str (pv 0) (po_some (pv 1)) (po_some (pe_op op_add (pv 1) pe_int))) (pe_tup (pa_cons pe_str (pa_cons pe_str pa_nil))) (by rfl)) (pss_one (ps_ret (pe_op op_add (pv 1) pe_int))) pss_nil)
      (pss_one (ps_ret (pe_op op_add (pv 1) pe_int)))))), ?_⟩
    have hd : l.drop i = l[i] :: l.drop (i + 1) := List.drop_eq_getElem_cons hi
    have hat : atI (S l).cps.toList (i : Int) = some l[i] := atI_nat (List.getElem?_eq_getElem hi)
    refine ⟨_, rfl, _, rfl, S l, _, l[i], rfl, rfl, len6 hl, hat, _, _, rfl, rfl, _, rfl, ite2 (fun h1 => ?_) (fun h1 => ?_)⟩
    · have h1 : isL l[i] = true := by rw [← let_in]; exact h1
      refine ⟨_, rfl, _, rfl, l, LET, i, rfl, by omega, hl, ?_⟩
      have e : run (inL LET) (l.drop i) = markLen (l.drop i) := by rw [let_in, hd, markLen_cons, if_pos h1]
      rw [e]; exact q H (Same.refl H)
    · have h1 : ¬ isL l[i] = true := by rw [← let_in]; exact h1
      refine ⟨_, rfl, _, rfl, S l, _, l[i], rfl, rfl, len6 hl, hat, _, _, rfl, rfl, _, rfl, ite2 (fun h2 => ?_) (fun h2 => ?_)⟩
      · have h2 : isD l[i] = true := by rw [← dig_in]; exact h2
        refine ⟨_, rfl, _, rfl, l, i, rfl, by omega, hl, ?_⟩
        have e : numLen (l.drop i) = markLen (l.drop i) := by rw [hd, markLen_cons, if_neg h1, if_pos h2]
        rw [e]; exact q H (Same.refl H)
      · have h2 : ¬ isD l[i] = true := by rw [← dig_in]; exact h2
        refine ⟨_, rfl, _, rfl, _, rfl, _, rfl, _, _, rfl, rfl, _, rfl, S l, rfl, len6 hl, (by show 2 ≤ sizeLine; decide), fun p np => ?_⟩
        refine ⟨p, _, rfl, .inr (sq_tup upd_same), rfl, rfl, _, rfl, ?_⟩
        show if (inV _ _) = true then _ else _
        rw [show ((i : Int) + 2) = ((i + 2 : Nat) : Int) by omega, cut_mid, two_in]
        have hs : (l.drop i).take (i + 2 - i) = l[i] :: (l.drop (i + 1)).take 1 := by
          rw [hd, show i + 2 - i = 2 by omega]; rfl
        rw [hs]
        have key : (l[i] :: (l.drop (i + 1)).take 1 == [62, 61] || l[i] :: (l.drop (i + 1)).take 1 == [60, 61]) = true ↔ (l[i] = 62 ∨ l[i] = 60) ∧ (l.drop (i + 1))[0]? = some 61 := by
          rw [Bool.or_eq_true, beq_iff_eq, beq_iff_eq, List.cons.injEq, List.cons.injEq, ← or_and_right]
          refine and_congr Iff.rfl ?_
          cases l.drop (i + 1) with
          | nil => simp
          | cons d r => simp
        have sm : Same H (upd H p (.tup [.str (Str.ofString ">="), .str (Str.ofString "<=")])) := same_upd np
        refine ite2 (fun h3 => ?_) (fun h3 => ?_)
        · have e : markLen (l.drop i) = 2 := by rw [hd, markLen_cons, if_neg h1, if_neg h2, if_pos (key.mp h3)]
          rw [e] at q
          exact ⟨_, rfl, _, _, rfl, rfl, q _ sm⟩
        · have e : markLen (l.drop i) = 1 := by rw [hd, markLen_cons, if_neg h1, if_neg h2, if_neg (fun z => h3 (key.mpr z))]
          rw [e] at q
          exact ⟨_, rfl, _, _, rfl, rfl, q _ sm⟩
/-! ### marks_of -/
def MkAt (H : Hp) (v : V) (k : Mk) : Prop := ∃ a, v = .ref a ∧ H a = some (.tup [.int (k.1 : Int), .int (k.2.1 : Int), .str (S k.2.2)])
abbrev Mks (H : Hp) (vs : List V) (ks : List Mk) : Prop := Paired (MkAt H) vs ks
theorem Mks.mono {H H' : Hp} {vs : List V} {ks : List Mk} (h : Mks H vs ks) (s : ∀ a xs, H a = some (.tup xs) → H' a = some (.tup xs)) : Mks H' vs ks :=
  Paired.mapP h fun _ _ ⟨a, e, f⟩ => ⟨a, e, s _ _ f⟩
theorem Mks.snoc {H : Hp} {vs : List V} {ks : List Mk} (h : Mks H vs ks) {v : V} {k : Mk} (r : MkAt H v k) : Mks H (vs ++ [v]) (ks ++ [k]) := by
  induction h with
  | nil => exact .cons r .nil
  | cons a b ih => exact .cons a ih
theorem Mks.len {H : Hp} {vs : List V} {ks : List Mk} (h : Mks H vs ks) : vs.length = ks.length := Paired.length h
theorem keep_tup {H : Hp} {o : Addr} {xs ys : List V} (ho : H o = some (.lst xs)) (a : Addr) (zs : List V) (h : H a = some (.tup zs)) : upd H o (.lst ys) a = some (.tup zs) := by
  rw [upd_ne (ne_of h ho (by intro z; cases z))]; exact h
def spMarks : Sp := fun vs H Q _ => ∃ l : Tx, vs = [.str (S l)] ∧ l.length ≤ 100000 ∧ ∀ H' p vs', Same H H' → H p = none → H' p = some (.tup vs') → Mks H' vs' (lex 0 0 l) → Q (.ref p) H'
abbrev s_marks_of : Stmt := topS 3
theorem sc_marks_of : FnScope ["text", "marks", "line", "line_start", "here", "end"] ["text"] (defScope s_marks_of) := ⟨rfl, rfl, rfl, by decide +kernel, rfl, by decide +kernel, by decide +kernel⟩
theorem mk32 (r : Tx) : markLen (32 :: r) = 1 := by rw [markLen_cons, if_neg (by decide), if_neg (by decide), if_neg (by simp)]
theorem mk10 (r : Tx) : markLen (10 :: r) = 1 := by rw [markLen_cons, if_neg (by decide), if_neg (by decide), if_neg (by simp)]
theorem ok_marks_of {f : Addr} {fd : FuncData} (F : Fun K "marks_of" "marks_of" s_marks_of f fd) (T : Txt6 mg) (c_mark_end : Cal P w K mg base 3 "_mark_end" spMark []) : FnOk P w K mg base CX0 4 f fd ["text"] spMarks := by
  refine F.ok sc_marks_of (fun vs H Q E h => ?_) (fun cdv A outer s H vs Q E hr h => ?_)
  · obtain ⟨l, rfl, _⟩ := h
    rfl
  · obtain ⟨l, rfl, hl, q⟩ := h
    refine ⟨_, (pss_cons (ps_set (i := 1) sc_marks_of.nd rfl (.inl rfl) (pe_lst pa_nil))
      (pss_cons (ps_set (i := 2) sc_marks_of.nd rfl (.inl rfl) pe_int)
      (pss_cons (ps_set (i := 3) sc_marks_of.nd rfl (.inl rfl) pe_int)
      (pss_cons (ps_set (i := 4) sc_marks_of.nd rfl (.inl rfl) pe_int)
      (pss_cons (ps_while PassesOwn.never (pt_cmpR op_lt (pv 4) (pe_callB call_len_str (by rfl) T.b_len (by decide +kernel) (pa_cons (pv 0) pa_nil)) (nomark _)) (pss_cons (ps_set (i := 5) sc_marks_of.nd rfl (.inl rfl) (pe_c c_mark_end hr (by decide) (by rfl) (pa_cons (pv 0) (pa_cons (pv 4) pa_nil))))
        (pss_cut (ps_if (pt_cmpR op_ne (pe_ix ix_str (pv 0) (pv 4) (fun _ _ => rfl)) pe_str (nomark _)) (pss_one (ps_expr (pe_bm PySem.F.plainAttrs_list PySem.F.slot_list_append PySem.F.type_list_append mt_append (pv 1) (pa_cons (pe_tup (pa_cons (pv 2) (pa_cons (pe_op op_sub (pv 4) (pv 3)) (pa_cons (pe_slice sl_str (pv 0) (po_some (pv 4)) (po_some (pv 5))) pa_nil)))) pa_nil)))) pss_nil)
        (pss_cons (ps_if (pt_cmpR op_eq (pe_ix ix_str (pv 0) (pv 4) (fun _ _ => rfl)) pe_str (nomark _)) (pss_cons (ps_aug (i := 2) sc_marks_of.nd rfl (.inl rfl) pe_int ip_add)
          (pss_one (ps_set (i := 3) sc_marks_of.nd rfl (.inl rfl) (pv 5)))) pss_nil)
        (pss_one (ps_set (i := 4) sc_marks_of.nd rfl (.inl rfl) (pv 5)))))))
      (pss_one (ps_ret (pe_callTy call_tuple_of (by rfl) T.b_tuple (by decide +kernel) (pa_cons (pv 1) pa_nil))))))))), ?_⟩
    refine ⟨Nat.zero_le _, fun o no => ?_⟩
    refine ⟨fun m σ H' => ∃ (j ln st : Nat) (y : Option V) (vs : List V) (ks : List Mk), σ = [some (.str (S l)), some (.ref o), some (.int (ln : Int)), some (.int (st : Int)), some (.int (j : Int)), y] ∧ Same H H' ∧ H' o = some (.lst vs) ∧ Mks H' vs ks ∧ st ≤ j ∧ j ≤ l.length ∧ ks ++ lex ln (j - st) (l.drop j) = lex 0 0 l ∧ ks.length ≤ j ∧ m = l.length - j,
      ⟨_, 0, 0, 0, none, [], [], rfl, same_upd no, upd_same, .nil, Nat.le_refl _, Nat.zero_le _, rfl, Nat.zero_le _, rfl⟩, fun m σ H' hW => ?_⟩
    obtain ⟨j, ln, st, y, vs, ks, rfl, sm, ho, mk, hst, hj, el, hk, rfl⟩ := hW
    refine ⟨_, rfl, _, rfl, _, rfl, len6 hl, _, _, rfl, rfl, _, rfl, ite2 (fun hlt => ?_) (fun hge => ?_)⟩
    · rw [S_len] at hlt
      have hlt : j < l.length := by have := of_decide_eq_true hlt; omega
      have hd : l.drop j = l[j] :: l.drop (j + 1) := List.drop_eq_getElem_cons hlt
      have hat : atI (S l).cps.toList (j : Int) = some l[j] := atI_nat (List.getElem?_eq_getElem hlt)
      have hn1 := markLen_pos (l.drop j)
      have hn2 : markLen (l.drop j) ≤ l.length - j := by
        have := markLen_le (l := l.drop j) (by rw [hd]; exact List.cons_ne_nil _ _)
        rwa [List.length_drop] at this
      refine ⟨fun σ' H' => ∃ m', m' < l.length - j ∧ _, fun _ _ z => z, ?_⟩
      -- end = _mark_end(text, here)
      refine ⟨_, rfl, _, rfl, l, j, rfl, hlt, hl, fun H2 s2 => ?_⟩
      have ho2 := s2 _ _ ho
      have mk2 := mk.mono fun a xs e => s2 _ _ e
      generalize hn : markLen (l.drop j) = n at hn1 hn2
      refine ⟨fun σ' H3 => ∃ vs3, σ' = [some (.str (S l)), some (.ref o), some (.int (ln : Int)), some (.int (st : Int)), some (.int (j : Int)), some (.int ((j + n : Nat) : Int))] ∧ Same H H3 ∧ H3 o = some (.lst vs3) ∧ Mks H3 vs3 (ks ++ (if l[j] = 32 then [] else [(ln, j - st, (l.drop j).take n)])), ?_, fun σ' H3 hM => ?_⟩
      · refine ⟨_, rfl, _, rfl, S l, _, l[j], rfl, rfl, len6 hl, hat, rfl, _, rfl, ite2 (fun h => ?_) (fun h => ?_)⟩
        · have h : l[j] ≠ 32 := fun z => not_dec h ((str_eq z32).mpr (by rw [z]))
          refine ⟨_, rfl, .inl ⟨rfl, _, sq_lst ho2⟩, _, rfl, _, rfl, _, rfl, _, _, rfl, rfl, _, rfl, _, rfl, _, rfl, _, rfl, _, rfl, S l, rfl, len6 hl, (by show 3 ≤ sizeLine; decide), fun p np => ?_⟩
          have ho3 : upd H2 p (.tup [.int (ln : Int), .int ((j : Int) - (st : Int)), .str (cutS (S l) (some (j : Int)) (some ((j + n : Nat) : Int)))]) o = some (.lst vs) := by
            rw [upd_ne (ne_of_none ho2 np)]; exact ho2
          refine ⟨o, vs, _, rfl, rfl, ho3, ?_, ?_⟩
          · rw [mk.len]; exact Nat.lt_of_le_of_lt hk (by have : (100000 : Nat) < sizeLine := by decide
                                                         omega)
          · refine ⟨_, rfl, fun b x e => ?_, upd_same, ?_⟩
            · rw [upd_ne (ne_of_none e no), upd_ne (ne_of_none (s2 _ _ (sm _ _ e)) np)]
              exact s2 _ _ (sm _ _ e)
            · rw [if_neg h]
              refine Mks.snoc ((mk2.mono fun a xs e => ?_).mono (keep_tup ho3)) ⟨p, rfl, ?_⟩
              · rw [upd_ne (ne_of_none e np)]; exact e
              · refine keep_tup ho3 _ _ ?_
                rw [upd_same, cut_mid, show j + n - j = n by omega, show (j : Int) - (st : Int) = ((j - st : Nat) : Int) by omega]
        · have h : l[j] = 32 := by
            have := (str_eq z32).mp (of_not_dec h)
            exact (List.cons.inj this).1
          refine ⟨vs, rfl, fun b x e => s2 _ _ (sm _ _ e), ho2, ?_⟩
          rw [if_pos h, List.append_nil]; exact mk2
      · obtain ⟨vs3, rfl, sm3, ho3, mk3⟩ := hM
        refine ⟨_, rfl, _, rfl, S l, _, l[j], rfl, rfl, len6 hl, hat, rfl, _, rfl, ite2 (fun h => ?_) (fun h => ?_)⟩
        · have h : l[j] = 10 := by
            have := (str_eq z10).mp (of_decide_eq_true h)
            exact (List.cons.inj this).1
          have en : n = 1 := by rw [← hn, hd, h, mk10]
          subst en
          refine ⟨_, rfl, _, _, rfl, rfl, _, rfl, _, rfl, l.length - (j + 1), by omega, j + 1, ln + 1, j + 1, _, vs3, _, rfl, sm3, ho3, mk3, Nat.le_refl _, by omega, ?_, ?_, rfl⟩
          · rw [if_neg (by rw [h]; decide), ← el, hd, h, lex_nl, Nat.sub_self, List.append_assoc]; rfl
          · rw [if_neg (by rw [h]; decide), List.length_append]; exact Nat.succ_le_succ hk
        · have h : l[j] ≠ 10 := fun z => h (decide_eq_true ((str_eq z10).mpr (by rw [z])))
          refine ⟨_, rfl, l.length - (j + n), by omega, j + n, ln, st, _, vs3, _, rfl, sm3, ho3, mk3, by omega, by omega, ?_, ?_, rfl⟩
          · by_cases h32 : l[j] = 32
            · have en : n = 1 := by rw [← hn, hd, h32, mk32]
              subst en
              rw [if_pos h32, List.append_nil, ← el, hd, h32, lex_sp, show j - st + 1 = j + 1 - st by omega]
            · rw [if_neg h32, ← el, hd, lex_mk _ _ h32 h, ← hd, hn, List.append_assoc, List.drop_drop, show j - st + n = j + n - st by omega]; rfl
          · split
            · rw [List.append_nil]; omega
            · rw [List.length_append]; show ks.length + 1 ≤ _; omega
    · rw [S_len] at hge
      have hge : ¬ j < l.length := fun z => hge (decide_eq_true (by omega))
      refine ⟨_, rfl, o, vs, rfl, .inl ⟨sq_lst ho, fun p np => ?_⟩⟩
      rw [List.drop_eq_nil_of_le (by omega), lex_nil, List.append_nil] at el
      rw [← el] at q
      refine q _ p vs (sm.trans (same_upd np)) (sm.free np) upd_same (mk.mono fun a xs e => ?_)
      rw [upd_ne (ne_of_none e np)]; exact e
end
end M06

namespace M06
open PySem PySem.Spec PyProof.Rows L2 SX
open C8 (Cal pe_c pe_gc pss_cut)
/-! ### the store of numbers that the draws eat -/
structure HpL (H : Hp) (h q : Addr) (cs : List Int) (st : Int) : Prop where
  ne : h ≠ q
  hh : H h = some (.lst [.ref q, .int st])
  hq : H q = some (.lst (cs.map V.int))
  nn : ∀ c ∈ cs, 0 ≤ c
  ln : cs.length ≤ 60
  s0 : 0 ≤ st
  s1 : st < 2147483647
def HpAt (H : Hp) (h q : Addr) : Prop := ∃ cs st, HpL H h q cs st
def Keep (h q : Addr) (H H' : Hp) : Prop := ∀ b o, H b = some o → b ≠ h → b ≠ q → H' b = some o
theorem Keep.refl (h q : Addr) (H : Hp) : Keep h q H H := fun _ _ e _ _ => e
theorem Keep.trans {h q : Addr} {H H1 H2 : Hp} (a : Keep h q H H1) (b : Keep h q H1 H2) : Keep h q H H2 := fun c o e n1 n2 => b c o (a c o e n1 n2) n1 n2
theorem Keep.of_same {h q : Addr} {H H' : Hp} (s : Same H H') : Keep h q H H' := fun b o e _ _ => s b o e
theorem Keep.at_q {h q : Addr} {H : Hp} {o : HO} : Keep h q H (upd H q o) := fun b x e _ n => by rw [upd_ne n]; exact e
theorem Keep.at_h {h q : Addr} {H : Hp} {o : HO} : Keep h q H (upd H h o) := fun b x e n _ => by rw [upd_ne n]; exact e
theorem HpL.same {H H' : Hp} {h q : Addr} {cs : List Int} {st : Int} (a : HpL H h q cs st) (s : Same H H') : HpL H' h q cs st := ⟨a.ne, s _ _ a.hh, s _ _ a.hq, a.nn, a.ln, a.s0, a.s1⟩
theorem HpAt.same {H H' : Hp} {h q : Addr} (a : HpAt H h q) (s : Same H H') : HpAt H' h q := by
  obtain ⟨cs, st, a⟩ := a
  exact ⟨cs, st, a.same s⟩
theorem HpL.put {H : Hp} {h q : Addr} {cs : List Int} {st : Int} (a : HpL H h q cs st) (ds : List Int) (nn : ∀ c ∈ ds, 0 ≤ c) (ln : ds.length ≤ 60) : HpL (upd H q (.lst (ds.map V.int))) h q ds st :=
  ⟨a.ne, by rw [upd_ne a.ne]; exact a.hh, upd_same, nn, ln, a.s0, a.s1⟩
theorem HpAt.fresh {H : Hp} {h q p : Addr} (a : HpAt H h q) (np : H p = none) : p ≠ h ∧ p ≠ q := by
  obtain ⟨cs, st, a⟩ := a
  exact ⟨(ne_of_none a.hh np).symm, (ne_of_none a.hq np).symm⟩
theorem dp_ints {K : PySem.W.Frag} {H : Hp} : ∀ cs : List Int, DpAll K H (cs.map V.int) (cs.map PyData.int)
  | [] => .nil
  | c :: r => .cons (.int c) (dp_ints r)
theorem shp_ints (ns : List Int) : SeqAt.shaped (.list (ns.map PyData.int)) = true := PySem.W.ke_shaped_ints ns
section
variable {P : Program} {w : World} {K : PySem.W.Frag} {mg : Str → Option Value} {base : Heap}
abbrev s_Ldraw : Stmt := topS 9
theorem sc_Ldraw : FnScope ["heap", "many", "rest"] ["heap", "many"] (defScope s_Ldraw) := ⟨rfl, rfl, rfl, by decide +kernel, rfl, by decide +kernel, by decide +kernel⟩
def spDraw : Sp := fun vs H Q _ => ∃ (h q : Addr) (n : Int), vs = [.ref h, .int n] ∧ HpAt H h q ∧ 0 < n ∧ n < 1073741824 ∧ ∀ d H', 0 ≤ d → d < n → HpAt H' h q → Keep h q H H' → Q (.int d) H'
theorem ok_draw {f : Addr} {fd : FuncData} (F : Fun K "_law_draw" "_law_draw" s_Ldraw f fd) (T : Txt6 mg) : FnOk P w K mg base CX0 1 f fd ["heap", "many"] spDraw := by
  refine F.ok sc_Ldraw (fun vs H Q E h => ?_) (fun cdv A outer s H vs Q E hr h => ?_)
  · obtain ⟨h, q, n, rfl, _⟩ := h
    rfl
  · obtain ⟨h, q, n, rfl, ⟨cs0, st0, a0⟩, hn, hn2, k⟩ := h
    refine ⟨_, (pss_cut (ps_while PassesOwn.never (PW.pt (pw_and (pt_cmpR (op_neD hr.units) (pe_ix ix_list (pv 0) pe_int (fun _ _ => rfl)) (pe_lst pa_nil) (nomark _)) (pw_and1 (pt_cmpR op_eq (pe_ix ix_list (pe_ix ix_list (pv 0) pe_int (fun _ _ => rfl)) (pe_un un_neg pe_int) (fun _ _ => rfl)) pe_int (nomark _))))) (pss_one (ps_expr (pe_bm0 PySem.F.plainAttrs_list PySem.F.slot_list_pop PySem.F.type_list_pop mt_pop (pe_ix ix_list (pv 0) pe_int (fun _ _ => rfl))))))
      (pss_cons (ps_if (pt_cmpR (op_neD hr.units) (pe_ix ix_list (pv 0) pe_int (fun _ _ => rfl)) (pe_lst pa_nil) (nomark _)) (pss_cons (ps_set (i := 2) sc_Ldraw.nd rfl (.inl rfl) (pe_bm0 PySem.F.plainAttrs_list PySem.F.slot_list_pop PySem.F.type_list_pop mt_pop (pe_ix ix_list (pv 0) pe_int (fun _ _ => rfl))))
        (pss_cons (ps_expr (pe_bm PySem.F.plainAttrs_list PySem.F.slot_list_append PySem.F.type_list_append mt_append (pe_ix ix_list (pv 0) pe_int (fun _ _ => rfl)) (pa_cons (pe_op op_fdiv (pv 2) (pv 1)) pa_nil)))
        (pss_one (ps_ret (pe_op op_mod (pe_callTy call_int1 (by rfl) T.b_int (by decide +kernel) (pa_cons (pv 2) pa_nil)) (pv 1)))))) pss_nil)
      (pss_cons (ps_asg (pe_op op_mod (pe_callTy call_int1 (by rfl) T.b_int (by decide +kernel) (pa_cons (pe_op op_add (pe_op op_mul (pe_ix ix_list (pv 0) pe_int (fun _ _ => rfl)) pe_int) pe_int) pa_nil)) pe_int) (pg_sub (pv 0) pe_int set_list))
      (pss_one (ps_ret (pe_op op_mod (pe_callTy call_int1 (by rfl) T.b_int (by decide +kernel) (pa_cons (pe_op op_fdiv (pe_ix ix_list (pv 0) pe_int (fun _ _ => rfl)) pe_int) pa_nil)) (pv 1))))))), ?_⟩
    refine ⟨fun σ H' => ∃ cs st y, σ = [some (.ref h), some (.int n), y] ∧ HpL H' h q cs st ∧ Keep h q H H', ?_, fun σ H1 hM => ?_⟩
    · refine ⟨fun m σ H' => ∃ cs st y, σ = [some (.ref h), some (.int n), y] ∧ HpL H' h q cs st ∧ Keep h q H H' ∧ m = cs.length, ⟨_, cs0, st0, none, rfl, a0, Keep.refl _ _ _, rfl⟩, fun m σ H1 hW => ?_⟩
      obtain ⟨cs, st, y, rfl, a, kp, rfl⟩ := hW
      refine ⟨_, rfl, h, _, 0, .ref q, rfl, rfl, sq_lst a.hh, rfl, Nat.zero_le _, fun p np => ?_⟩
      have sm : Same H1 (upd H1 p (.lst [])) := same_upd np
      have a2 := a.same sm
      refine ⟨_, _, .lst (sq_lst a2.hq) (dp_ints cs), .lst (sq_lst upd_same) .nil, shp_ints cs, shp_ints [], _, rfl, ?_⟩
      rcases List.eq_nil_or_concat cs with rfl | ⟨ds, c, rfl⟩
      · refine iteF ?_
        exact ⟨[], st, y, rfl, a2, kp.trans (.of_same sm)⟩
      · have e : PyData.eqv (.list ((ds.concat c).map PyData.int)) (.list []) = false := by
          rw [List.concat_eq_append, List.map_append, PyData.eqv]
          cases ds with
          | nil => rfl
          | cons d r => rfl
        rw [e]
        refine iteT ?_
        have el : (ds.concat c).map V.int = ds.map V.int ++ [.int c] := by rw [List.concat_eq_append, List.map_append]; rfl
        refine ⟨_, rfl, h, _, 0, .ref q, rfl, rfl, sq_lst a2.hh, rfl, _, rfl, q, _, -1, .int c, rfl, rfl, sq_lst a2.hq, (by rw [el]; exact atI_last _ _), rfl, _, rfl, ite2 (fun hz => ?_) (fun hz => ?_)⟩
        · refine ⟨fun σ' H' => ∃ m', m' < (ds.concat c).length ∧ _, fun _ _ z => z, ?_⟩
          refine ⟨_, rfl, h, _, 0, .ref q, rfl, rfl, sq_lst a2.hh, rfl, .inl ⟨rfl, _, sq_lst a2.hq⟩, q, _, .int c, rfl, rfl, a2.hq, ?_, ds.length, ?_, ds, st, y, rfl, ?_, ?_, rfl⟩
          · rw [el, List.length_append, List.length_singleton, Nat.add_sub_cancel, List.getElem?_append_right (Nat.le_refl _), Nat.sub_self]; rfl
          · rw [List.length_concat]; omega
          · rw [el, List.dropLast_concat]
            refine a2.put ds (fun x hx => a.nn x (by rw [List.concat_eq_append]; exact List.mem_append_left _ hx)) ?_
            have := a.ln; rw [List.length_concat] at this; omega
          · exact (kp.trans (.of_same sm)).trans .at_q
        · exact ⟨ds.concat c, st, y, rfl, a2, kp.trans (.of_same sm)⟩
    · obtain ⟨cs, st, y, rfl, a, kp⟩ := hM
      refine ⟨_, rfl, h, _, 0, .ref q, rfl, rfl, sq_lst a.hh, rfl, Nat.zero_le _, fun p np => ?_⟩
      have sm : Same H1 (upd H1 p (.lst [])) := same_upd np
      have a2 := a.same sm
      refine ⟨_, _, .lst (sq_lst a2.hq) (dp_ints cs), .lst (sq_lst upd_same) .nil, shp_ints cs, shp_ints [], _, rfl, ?_⟩
      have kp2 := kp.trans (.of_same (h := h) (q := q) sm)
      rcases List.eq_nil_or_concat cs with rfl | ⟨ds, c, rfl⟩
      · refine iteF ?_
        have b1 : (0 : Int) ≤ (st * 48271 + 11) % 2147483647 := Int.emod_nonneg _ (by decide)
        have b2 : (st * 48271 + 11) % 2147483647 < 2147483647 := Int.emod_lt_of_pos _ (by decide)
        refine ⟨_, rfl, h, _, 1, .int st, rfl, rfl, sq_lst a2.hh, rfl, _, _, rfl, rfl, .inr ⟨by decide, by decide⟩, _, _, rfl, rfl, .inl ⟨_, rfl, _, _, rfl, rfl, (by show (0 : Int) < 2147483647; decide), _, rfl, h, _, 1, 1, rfl, rfl, a2.hh, rfl, ?_⟩⟩
        have a3 : HpL (upd (upd H1 p (.lst [])) h (.lst [.ref q, .int ((st * 48271 + 11) % 2147483647)])) h q [] ((st * 48271 + 11) % 2147483647) :=
          ⟨a.ne, upd_same, by rw [upd_ne a.ne.symm]; exact a2.hq, a.nn, a.ln, b1, b2⟩
        refine ⟨_, rfl, h, _, 1, _, rfl, rfl, sq_lst a3.hh, rfl, _, _, rfl, rfl, ⟨by decide, by decide⟩, .inl ⟨_, rfl, _, rfl, _, _, rfl, rfl, hn, ?_⟩⟩
        exact k _ _ (Int.emod_nonneg _ (by omega)) (Int.emod_lt_of_pos _ hn) ⟨_, _, a3⟩ (kp2.trans .at_h)
      · have e : PyData.eqv (.list ((ds.concat c).map PyData.int)) (.list []) = false := by
          rw [List.concat_eq_append, List.map_append, PyData.eqv]
          cases ds with
          | nil => rfl
          | cons d r => rfl
        rw [e]
        refine iteT ?_
        have el : (ds.concat c).map V.int = ds.map V.int ++ [.int c] := by rw [List.concat_eq_append, List.map_append]; rfl
        have c0 : 0 ≤ c := a.nn c (by rw [List.concat_eq_append]; simp)
        have dl : ds.length + 1 ≤ 60 := by have := a.ln; rwa [List.length_concat] at this
        refine ⟨_, rfl, h, _, 0, .ref q, rfl, rfl, sq_lst a2.hh, rfl, .inl ⟨rfl, _, sq_lst a2.hq⟩, q, _, .int c, rfl, rfl, a2.hq, ?_, ?_⟩
        · rw [el, List.length_append, List.length_singleton, Nat.add_sub_cancel, List.getElem?_append_right (Nat.le_refl _), Nat.sub_self]; rfl
        · rw [el, List.dropLast_concat]
          have a3 := a2.put ds (fun x hx => a.nn x (by rw [List.concat_eq_append]; exact List.mem_append_left _ hx)) (by omega)
          refine ⟨_, rfl, h, _, 0, .ref q, rfl, rfl, sq_lst a3.hh, rfl, .inl ⟨rfl, _, sq_lst a3.hq⟩, _, rfl, _, rfl, _, _, rfl, rfl, ⟨hn, hn2⟩, q, _, _, rfl, rfl, a3.hq, ?_, ?_⟩
          · rw [List.length_map]; exact small1000 (by omega)
          · have a4 := a3.put (ds ++ [c / n]) (fun x hx => by
              rcases List.mem_append.mp hx with z | z
              · exact a3.nn x z
              · rw [List.mem_singleton.mp z]; exact Int.ediv_nonneg c0 (by omega)) (by rw [List.length_append]; exact dl)
            rw [List.map_append] at a4
            refine ⟨_, rfl, .inl ⟨_, rfl, _, rfl, _, _, rfl, rfl, hn, ?_⟩⟩
            exact k _ _ (Int.emod_nonneg _ (by omega)) (Int.emod_lt_of_pos _ hn) ⟨_, _, a4⟩ ((kp2.trans .at_q).trans .at_q)
end
end M06

namespace M06
open PySem PySem.Spec PyProof.Rows L2 SX
open C8 (Cal pe_c pe_gc pss_cut)
theorem same_at {H0 H : Hp} {D : Addr} {o : HO} (s : Same H0 H) (n : H0 D = none) : Same H0 (upd H D o) := fun b x e => by
  rw [upd_ne (ne_of_none e n)]; exact s _ _ e
theorem Keep.free {h q D : Addr} {H H1 : Hp} (k : Keep h q H H1) (n : H1 D = none) (n1 : D ≠ h) (n2 : D ≠ q) : H D = none := by
  cases e : H D with
  | none => rfl
  | some o => rw [k _ _ e n1 n2] at n; cases n
theorem Keep.at_new {h q D : Addr} {H H1 : Hp} {o : HO} (k : Keep h q H H1) (n : H D = none) : Keep h q H (upd H1 D o) := fun b x e n1 n2 => by
  rw [upd_ne (ne_of_none e n)]; exact k _ _ e n1 n2
theorem HpAt.upd {H : Hp} {h q D : Addr} {o : HO} (a : HpAt H h q) (n1 : D ≠ h) (n2 : D ≠ q) : HpAt (upd H D o) h q := by
  obtain ⟨cs, st, a⟩ := a
  exact ⟨cs, st, a.ne, by rw [upd_ne n1.symm]; exact a.hh, by rw [upd_ne n2.symm]; exact a.hq, a.nn, a.ln, a.s0, a.s1⟩
/-- a text so many times -/
theorem foldl_app : ∀ (ls : List (Array Nat)) (a : Array Nat), (ls.foldl (· ++ ·) a).toList = a.toList ++ (ls.map Array.toList).flatten
  | [], a => by simp
  | x :: r, a => by rw [List.foldl_cons, foldl_app r, Array.toList_append, List.map_cons, List.flatten_cons, List.append_assoc]
theorem mul_S (l : Tx) (n : Nat) : Txt.mul (S l) (n : Int) = S (List.replicate n l).flatten := by
  refine TL.ext_tl ?_
  unfold Txt.mul
  by_cases h1 : (n : Int) < 1
  · have : n = 0 := by omega
    subst this; rw [if_pos h1]; rfl
  · rw [if_neg h1]
    by_cases h2 : ((n : Int) == 1 || (S l).length == 0) = true
    · rw [if_pos h2]
      rw [Bool.or_eq_true, beq_iff_eq, beq_iff_eq, S_len] at h2
      rcases h2 with h2 | h2
      · have : n = 1 := by omega
        subst this; simp [TL.tl]
      · have : l = [] := List.length_eq_zero_iff.mp h2
        subst this
        show ([] : Tx) = (List.replicate n []).flatten
        induction n with
        | zero => rfl
        | succ n ih => simp
    · rw [if_neg h2]
      show ((List.replicate (n : Int).toNat l.toArray).foldl (· ++ ·) #[]).toList = _
      rw [foldl_app, Int.toNat_natCast, List.map_replicate]; rfl
section
variable {P : Program} {w : World} {K : PySem.W.Frag} {mg : Str → Option Value} {base : Heap}
theorem op_mulS {X : Cx} : OpR X (binaryOp .Mult) (fun x y H Q => ∃ (l : Tx) (n : Nat), x = .str (S l) ∧ y = .int (n : Int) ∧ l.length ≤ 4 ∧ n ≤ 100000 ∧ Q (.str (S (List.replicate n l).flatten)) H) := by
  intro pins s σ H x y v u Q I rx ry h
  obtain ⟨l, n, rfl, rfl, hl, hn, q⟩ := h
  obtain ⟨t, rfl⟩ := rx
  obtain ⟨t', rfl⟩ := ry
  refine SB.mul (mulOk_of 4 100000 (by rw [S_len]; exact hl) (by omega) (by omega) (by decide) (by decide)) fun t2 tk => ?_
  rw [mul_S]
  exact ⟨.str _, H, I.tok _, ⟨_, rfl⟩, q⟩
/-! ### the store made -/
abbrev s_Lheap : Stmt := topS 8
abbrev n_Lheap : List Str := ["script", "cell", "cells", "stir"]
theorem sc_Lheap : FnScope n_Lheap ["script"] (defScope s_Lheap) := ⟨rfl, rfl, rfl, by decide +kernel, rfl, by decide +kernel, by decide +kernel⟩
def spHeap (K : PySem.W.Frag) : Sp := fun vs H Q _ => ∃ (a : Addr) (ns : List Int), vs = [.ref a] ∧ SqL K H a (ns.map V.int) ∧ ns.length ≤ 63 ∧ ∀ H' h q, Same H H' → H h = none → H q = none → HpAt H' h q → Q (.ref h) H'
theorem cut60 (ns : List Int) : cutV (ns.map V.int) none (some 60) = (ns.take 60).map V.int := by
  unfold cutV
  rw [HT.sIx_none, show HT.sIx (ns.map V.int).length (ns.map V.int).length (some 60) = min 60 (ns.map V.int).length from HT.sIx_nat _ _ 60, List.drop_zero, Nat.sub_zero, List.map_take]
  by_cases h : 60 ≤ (ns.map V.int).length
  · rw [Nat.min_eq_left h]
  · rw [Nat.min_eq_right (by omega), List.take_length, List.take_of_length_le (by omega)]
theorem get_int {ns : List Int} {i : Nat} {x : V} (h : (ns.map V.int)[i]? = some x) : ∃ z, ns[i]? = some z ∧ x = .int z := by
  rw [List.getElem?_map] at h
  cases e : ns[i]? with
  | none => rw [e] at h; cases h
  | some z => rw [e] at h; exact ⟨z, rfl, (Option.some.inj h).symm⟩
theorem ok_heap {f : Addr} {fd : FuncData} (F : Fun K "_law_heap" "_law_heap" s_Lheap f fd) (T : Txt6 mg) : FnOk P w K mg base CX0 1 f fd ["script"] (spHeap K) := by
  refine F.ok sc_Lheap (fun vs H Q E h => ?_) (fun cdv A outer s H vs Q E hr h => ?_)
  · obtain ⟨a, ns, rfl, _⟩ := h
    rfl
  · obtain ⟨a, ns, rfl, hS, hlen, k⟩ := h
    refine ⟨_, (pss_cons (ps_par (i := 2) (j := 3) (by rfl) sc_Lheap.nd rfl rfl (by decide) rfl rfl (pa_cons (pe_lc (own := [("cell", 1)]) rfl sc_Lheap.nd (pi_list (pe_slice sl_list (pv 0) po_none (po_some pe_int))) (blkOk_by (N := n_Lheap) (sc := defScope s_Lheap) (by decide +kernel)) (fun _ _ _ _ _ => (pg_name (i := 1) sc_Lheap.nd rfl (.inl rfl))) (fun _ _ _ _ _ => pts_nil) (fun _ _ _ _ _ => (pe_callB call_abs (by rfl) T.b_abs (by decide +kernel) (pa_cons (pv 1) pa_nil)))) (pa_cons pe_int pa_nil)) (by rfl))
      (pss_cons (ps_for PassesOwn.never rfl (pi_list (pv 2)) (pg_name (i := 1) sc_Lheap.nd rfl (.inl rfl)) (pss_one (ps_set (i := 3) sc_Lheap.nd rfl (.inl rfl) (pe_op op_mod (pe_callTy call_int1 (by rfl) T.b_int (by decide +kernel) (pa_cons (pe_op op_add (pe_op op_add (pe_op op_mul (pv 3) pe_int) (pe_op op_mod (pe_callTy call_int1 (by rfl) T.b_int (by decide +kernel) (pa_cons (pv 1) pa_nil)) pe_int)) pe_int) pa_nil)) pe_int))))
      (pss_one (ps_ret (pe_lst (pa_cons (pe_revL (pe_lc (own := [("cell", 1)]) rfl sc_Lheap.nd (pi_list (pv 2)) (blkOk_by (N := n_Lheap) (sc := defScope s_Lheap) (by decide +kernel)) (fun _ _ _ _ _ => (pg_name (i := 1) sc_Lheap.nd rfl (.inl rfl))) (fun _ _ _ _ _ => (pts_one (pt_cmpR op_ge (pv 1) (pe_op op_pow pe_int pe_int) (nomark _)))) (fun _ _ _ _ _ => (pv 1)))) (pa_cons (pv 3) pa_nil))))))), ?_⟩
    refine ⟨_, rfl, _, rfl, a, _, rfl, hS, fun p np => ?_⟩
    rw [cut60]
    have s1 : Same H (upd H p (.lst ((ns.take 60).map V.int))) := same_upd np
    refine ⟨p, rfl, ⟨_, sq_lst upd_same⟩, fun D nD => ?_⟩
    have nDH : H D = none := s1.free nD
    have hDp : p ≠ D := ne_of_none upd_same nD
    refine lc_list (K := K) (a := p) (xs := (ns.take 60).map V.int) (fun i H' => ∃ cs : List Int, H' D = some (.lst (cs.map V.int)) ∧ (∀ c ∈ cs, 0 ≤ c) ∧ cs.length = i ∧ H' p = some (.lst ((ns.take 60).map V.int)) ∧ Same H H')
      ⟨[], upd_same, by simp, rfl, by rw [upd_ne hDp]; exact upd_same, same_at s1 nDH⟩ (fun i H' _ ⟨_, _, _, _, e, _⟩ => sq_lst e) ?_ ?_
    · rintro i x H' hi ⟨cs, hD, c0, cl, hp, sm⟩
      obtain ⟨z, hz, rfl⟩ := get_int hi
      have hil : i < (ns.take 60).length := (List.getElem?_eq_some_iff.mp hz).1
      rw [List.length_take] at hil
      refine ⟨rfl, _, rfl, z, rfl, cs.map V.int, hD, (by rw [List.length_map]; exact small1000 (by omega)), cs ++ [if z < 0 then -z else z], ?_, ?_, ?_, ?_, same_at sm nDH⟩
      · rw [upd_same, List.map_append]; rfl
      · intro c hc
        rcases List.mem_append.mp hc with h | h
        · exact c0 c h
        · rw [List.mem_singleton.mp h]; split <;> omega
      · rw [List.length_append, cl]; rfl
      · rw [upd_ne hDp]; exact hp
    · rintro H2 ⟨cs, hD, c0, cl, hp, sm⟩
      have cl60 : cs.length ≤ 60 := by rw [cl, List.length_map, List.length_take]; omega
      refine ⟨_, _, rfl, ?_⟩
      -- the loop over the cells
      refine ⟨_, rfl, D, rfl, ⟨_, sq_lst hD⟩, for_list (K := K) (a := D) (xs := cs.map V.int) (fun i σ H' => ∃ (y : Option V) (st : Int), σ = [some (.ref a), y, some (.ref D), some (.int st)] ∧ 0 ≤ st ∧ st < 2147483647 ∧ H' = H2)
        ⟨_, 7001, rfl, by decide, by decide, rfl⟩ (fun i σ H' _ ⟨_, _, _, _, _, e⟩ => by rw [e]; exact sq_lst hD) ?_ ?_⟩
      · rintro i x σ H' hi ⟨y, st, rfl, h0, h1, rfl⟩
        obtain ⟨z, hz, rfl⟩ := get_int hi
        refine ⟨_, rfl, _, _, rfl, rfl, .inl ⟨by omega, by omega⟩, _, rfl, .inl ⟨_, rfl, _, _, rfl, rfl, (by show (0 : Int) < 2147483543; decide), _, _, rfl, rfl, _, _, rfl, rfl, .inl ⟨_, rfl, _, _, rfl, rfl, (by show (0 : Int) < 2147483647; decide), ?_⟩⟩⟩
        exact ⟨_, _, rfl, Int.emod_nonneg _ (by decide), Int.emod_lt_of_pos _ (by decide), rfl⟩
      · rintro σ H' ⟨y, st, rfl, h0, h1, rfl⟩
        refine ⟨_, rfl, D, rfl, ⟨_, sq_lst hD⟩, fun D2 nD2 => ?_⟩
        have nD2H : H D2 = none := sm.free nD2
        have hDD : D ≠ D2 := ne_of_none hD nD2
        refine lc_list (K := K) (a := D) (xs := cs.map V.int) (fun i H3 => ∃ ds : List Int, H3 D2 = some (.lst (ds.map V.int)) ∧ (∀ c ∈ ds, 0 ≤ c) ∧ ds.length ≤ i ∧ H3 D = some (.lst (cs.map V.int)) ∧ Same H H3)
          ⟨[], upd_same, by simp, Nat.le_refl _, by rw [upd_ne hDD]; exact hD, same_at sm nD2H⟩ (fun i H' _ ⟨_, _, _, _, e, _⟩ => sq_lst e) ?_ ?_
        · rintro i x H3 hi ⟨ds, hd, d0, dl, hc, sm3⟩
          obtain ⟨z, hz, rfl⟩ := get_int hi
          have hil : i < cs.length := (List.getElem?_eq_some_iff.mp hz).1
          have hz0 : 0 ≤ z := c0 z (List.mem_of_getElem? hz)
          refine ⟨rfl, _, rfl, _, _, rfl, rfl, ⟨by decide, by decide, by decide⟩, _, _, rfl, rfl, _, rfl, ite2 (fun _ => ?_) (fun _ => ?_)⟩
          · refine ⟨_, rfl, ds.map V.int, hd, (by rw [List.length_map]; exact small1000 (by omega)), ds ++ [z], ?_, ?_, ?_, ?_, same_at sm3 nD2H⟩
            · rw [upd_same, List.map_append]; rfl
            · intro c hc
              rcases List.mem_append.mp hc with h | h
              · exact d0 c h
              · rw [List.mem_singleton.mp h]; exact hz0
            · rw [List.length_append]; exact Nat.succ_le_succ dl
            · rw [upd_ne hDD]; exact hc
          · exact ⟨ds, hd, d0, by omega, hc, sm3⟩
        · rintro H3 ⟨ds, hd, d0, dl, hc, sm3⟩
          have dl60 : ds.length ≤ 60 := by rw [List.length_map] at dl; omega
          refine ⟨D2, _, rfl, sq_lst hd, fun q nq => ?_⟩
          refine ⟨_, rfl, (by show 2 ≤ sizeLine; decide), fun g ng => ?_⟩
          have s4 := same_at (o := .lst (ds.map V.int).reverse) sm3 (sm3.free nq)
          have s5 := same_at (o := .lst [.ref q, .int st]) s4 (s4.free ng)
          have hgq : g ≠ q := (ne_of_none upd_same ng).symm
          refine k _ g q s5 (s4.free ng) (sm3.free nq) ⟨ds.reverse, st, hgq, upd_same, ?_, ?_, ?_, h0, h1⟩
          · rw [upd_ne hgq.symm, upd_same, List.map_reverse]
          · intro c hc; exact d0 c (List.mem_reverse.mp hc)
          · rw [List.length_reverse]; exact dl60
end
end M06

namespace M06
open PySem PySem.Spec PyProof.Rows L2 SX
open C8 (Cal pe_c pe_gc pss_cut)

theorem tx (z : Str) : z = S z.cps.toList := (S_tl z).symm
/-- signs that a text may have -/
def Cp (t : Tx) : Prop := t.all (fun c => decide (c < 1114112)) = true
theorem Cp.mem {t : Tx} (h : Cp t) {c : Nat} (m : c ∈ t) : c < 1114112 := of_decide_eq_true (List.all_eq_true.mp h c m)
theorem Cp.of {t : Tx} (h : ∀ c ∈ t, c < 1114112) : Cp t := List.all_eq_true.mpr fun c m => decide_eq_true (h c m)
theorem Cp.app {t u : Tx} (h : Cp t) (k : Cp u) : Cp (t ++ u) := Cp.of fun c m => by
  rcases List.mem_append.mp m with z | z
  · exact h.mem z
  · exact k.mem z
theorem strs_in {v : V} {xs : List Str} (h : v ∈ xs.map V.str) {n : Nat} (a : xs.all (fun z => (decide (1 ≤ z.cps.toList.length) && decide (z.cps.toList.length ≤ n)) && z.cps.toList.all (fun c => decide (c < 1114112))) = true) : ∃ t : Tx, v = .str (S t) ∧ t ≠ [] ∧ t.length ≤ n ∧ Cp t := by
  obtain ⟨z, hz, rfl⟩ := List.mem_map.mp h
  have := List.all_eq_true.mp a z hz
  rw [Bool.and_eq_true, Bool.and_eq_true, decide_eq_true_eq, decide_eq_true_eq] at this
  exact ⟨z.cps.toList, by rw [S_tl], List.length_pos_iff.mp this.1.1, this.1.2, this.2⟩
theorem join_len : ∀ (ys : List Tx), (TL.joinL [] ys).length = (ys.map (·.length)).sum
  | [] => rfl
  | [p] => by show p.length = p.length + 0; omega
  | p :: q :: r => by
    have := join_len (q :: r)
    show (p ++ ([] ++ TL.joinL [] (q :: r))).length = p.length + ((q :: r).map (·.length)).sum
    rw [List.nil_append, List.length_append, this]
theorem join_ones : ∀ t : Tx, TL.joinL [] (t.map fun c => [c]) = t
  | [] => rfl
  | [c] => rfl
  | c :: d :: r => by
    show [c] ++ ([] ++ TL.joinL [] ((d :: r).map fun c => [c])) = c :: d :: r
    rw [join_ones (d :: r)]; rfl
theorem sum_ones (t : Tx) : ((t.map fun c => [c]).map (·.length)).sum = t.length := by
  induction t with
  | nil => rfl
  | cons c r ih => rw [List.map_cons, List.map_cons, List.sum_cons, ih]; simp; omega
section
variable {P : Program} {w : World} {K : PySem.W.Frag} {mg : Str → Option Value} {base : Heap}
abbrev s_Lpick : Stmt := topS 10
abbrev n_Lpick : List Str := ["heap", "some"]
theorem sc_Lpick : FnScope n_Lpick ["heap", "some"] (defScope s_Lpick) := ⟨rfl, rfl, rfl, by decide +kernel, rfl, by decide +kernel, by decide +kernel⟩

def spPickS : Sp := fun vs H Q _ => ∃ (h q : Addr) (l : Tx), vs = [.ref h, .str (S l)] ∧ HpAt H h q ∧ l ≠ [] ∧ l.length ≤ 1000 ∧ ∀ c H', c ∈ l → HpAt H' h q → Keep h q H H' → Q (.str (S [c])) H'
theorem ok_pickS {f : Addr} {fd : FuncData} (F : Fun K "_law_pick" "_law_pick" s_Lpick f fd) (T : Txt6 mg) (c_Ldraw : Cal P w K mg base 1 "_law_draw" spDraw []) : FnOk P w K mg base CX0 2 f fd ["heap", "some"] spPickS := by
  refine F.ok sc_Lpick (fun vs H Q E h => ?_) (fun cdv A outer s H vs Q E hr h => ?_)
  · obtain ⟨h, q, l, rfl, _⟩ := h
    rfl
  · obtain ⟨h, q, l, rfl, a, hl, hn, k⟩ := h
    refine ⟨_, (pss_one (ps_ret (pe_ix ix_str (pv 1) (pe_c c_Ldraw hr (by decide) (by rfl) (pa_cons (pv 0) (pa_cons (pe_callB call_len_str (by rfl) T.b_len (by decide +kernel) (pa_cons (pv 1) pa_nil)) pa_nil))) (fun _ _ => rfl)))), ?_⟩
    have h1 : 0 < l.length := List.length_pos_iff.mpr hl
    refine ⟨_, rfl, _, rfl, _, rfl, _, rfl, (len6 (by omega)), h, q, (l.length : Int), (by rw [S_len]; rfl), a, by omega, by omega, fun d H' d0 d1 a' kp => ?_⟩
    obtain ⟨j, rfl⟩ : ∃ j : Nat, d = (j : Int) := ⟨d.toNat, by omega⟩
    have hj : j < l.length := by omega
    exact ⟨S l, (j : Int), l[j], rfl, rfl, len6 (by omega), atI_nat (List.getElem?_eq_getElem hj), k _ _ (List.getElem_mem hj) a' kp⟩
def spPickL : Sp := fun vs H Q _ => ∃ (h q p : Addr) (xs : List V), vs = [.ref h, .ref p] ∧ HpAt H h q ∧ H p = some (.lst xs) ∧ p ≠ h ∧ p ≠ q ∧ xs ≠ [] ∧ xs.length ≤ 1000 ∧ ∀ v H', v ∈ xs → HpAt H' h q → Keep h q H H' → Q v H'
theorem ok_pickL {f : Addr} {fd : FuncData} (F : Fun K "_law_pick" "_law_pick" s_Lpick f fd) (T : Txt6 mg) (c_Ldraw : Cal P w K mg base 1 "_law_draw" spDraw []) : FnOk P w K mg base CX0 2 f fd ["heap", "some"] spPickL := by
  refine F.ok sc_Lpick (fun vs H Q E h => ?_) (fun cdv A outer s H vs Q E hr h => ?_)
  · obtain ⟨h, q, p, xs, rfl, _⟩ := h
    rfl
  · obtain ⟨h, q, p, xs, rfl, a, hp, p1, p2, hl, hn, k⟩ := h
    refine ⟨_, (pss_one (ps_ret (pe_ix ix_list (pv 1) (pe_c c_Ldraw hr (by decide) (by rfl) (pa_cons (pv 0) (pa_cons (pe_callB call_len_seq (by rfl) T.b_len (by decide +kernel) (pa_cons (pv 1) pa_nil)) pa_nil))) (fun _ _ => rfl)))), ?_⟩
    have h1 : 0 < xs.length := List.length_pos_iff.mpr hl
    refine ⟨_, rfl, _, rfl, _, rfl, p, xs, rfl, .inl (sq_lst hp), h, q, (xs.length : Int), rfl, a, by omega, by omega, fun d H' d0 d1 a' kp => ?_⟩
    obtain ⟨j, rfl⟩ : ∃ j : Nat, d = (j : Int) := ⟨d.toNat, by omega⟩
    have hj : j < xs.length := by omega
    exact ⟨p, xs, (j : Int), xs[j], rfl, rfl, sq_lst (kp _ _ hp p1 p2), atI_nat (List.getElem?_eq_getElem hj), k _ _ (List.getElem_mem hj) a' kp⟩
abbrev s_Lrun : Stmt := topS 11
abbrev n_Lrun : List Str := ["heap", "signs", "most", "place"]
theorem sc_Lrun : FnScope n_Lrun ["heap", "signs", "most"] (defScope s_Lrun) := ⟨rfl, rfl, rfl, by decide +kernel, rfl, by decide +kernel, by decide +kernel⟩

def spRunL : Sp := fun vs H Q _ => ∃ (h q : Addr) (l : Tx) (m : Int), vs = [.ref h, .str (S l), .int m] ∧ HpAt H h q ∧ l ≠ [] ∧ l.length ≤ 1000 ∧ Cp l ∧ 0 < m ∧ m ≤ 100 ∧ ∀ (t : Tx) H', (t.length : Int) ≤ m → Cp t → HpAt H' h q → Keep h q H H' → Q (.str (S t)) H'
theorem ok_run {f : Addr} {fd : FuncData} (F : Fun K "_law_run" "_law_run" s_Lrun f fd) (T : Txt6 mg) (c_Ldraw : Cal P w K mg base 1 "_law_draw" spDraw []) (c_Lpick : Cal P w K mg base 2 "_law_pick" spPickS []) : FnOk P w K mg base CX0 3 f fd ["heap", "signs", "most"] spRunL := by
  refine F.ok sc_Lrun (fun vs H Q E h => ?_) (fun cdv A outer s H vs Q E hr h => ?_)
  · obtain ⟨h, q, l, m, rfl, _⟩ := h
    rfl
  · obtain ⟨h, q, l, m, rfl, a, hl, hn, cl, m0, m1, k⟩ := h
    refine ⟨_, (pss_one (ps_ret (pe_join pe_str (pe_lc (own := [("place", 3)]) rfl sc_Lrun.nd (pi_range1 (by rfl) T.b_range (pa_cons (pe_op op_add pe_int (pe_c c_Ldraw hr (by decide) (by rfl) (pa_cons (pv 0) (pa_cons (pv 2) pa_nil)))) pa_nil)) (blkOk_by (N := n_Lrun) (sc := defScope s_Lrun) (by decide +kernel)) (fun _ _ _ _ _ => (pg_name (i := 3) sc_Lrun.nd rfl (.inl rfl))) (fun _ _ _ _ _ => pts_nil) (fun _ _ _ _ _ => (pe_c c_Lpick hr (by decide) (by rfl) (pa_cons (pv 0) (pa_cons (pv 1) pa_nil)))))))), ?_⟩
    refine ⟨⟨_, rfl⟩, _, rfl, _, rfl, h, q, m, rfl, a, m0, by omega, fun d H1 d0 d1 a1 kp1 => ?_⟩
    obtain ⟨j, rfl⟩ : ∃ j : Nat, d = (j : Int) := ⟨d.toNat, by omega⟩
    refine ⟨_, _, rfl, rfl, (1 + j : Int), rfl, by omega, by omega, fun D nD => ?_⟩
    have nf := a1.fresh nD
    have nDH := kp1.free nD nf.1 nf.2
    refine lc_range (lo := 0) (n := (1 + j : Int).toNat) (fun i H' => ∃ t : Tx, t.length = i ∧ Cp t ∧ H' D = some (.lst ((t.map fun c => [c]).map fun z => V.str (S z))) ∧ HpAt H' h q ∧ Keep h q H H')
      ⟨[], rfl, rfl, upd_same, a1.upd nf.1 nf.2, kp1.at_new nDH⟩ ?_ ?_
    · rintro i H2 hi ⟨t, rfl, ct, hD, a2, kp2⟩
      refine ⟨rfl, _, rfl, _, rfl, h, q, l, rfl, a2, hl, hn, fun c H3 hc a3 kp3 => ?_⟩
      have hD3 := kp3 _ _ hD nf.1 nf.2
      refine ⟨_, hD3, (by rw [List.length_map, List.length_map]; exact small1000 (by omega)), t ++ [c], by simp, ct.app (Cp.of fun x hx => by rw [List.mem_singleton.mp hx]; exact cl.mem hc), ?_, a3.upd nf.1 nf.2, (kp2.trans kp3).at_new nDH⟩
      rw [upd_same, List.map_append, List.map_append]; rfl
    · rintro H2 ⟨t, ht, ct, hD, a2, kp2⟩
      have e : ((t.map fun c => [c]).map fun z => V.str (S z)) = ((t.map fun c => [c]).map S).map V.str := by simp only [List.map_map]; rfl
      rw [e] at hD
      refine ⟨S [], D, (t.map fun c => [c]).map S, rfl, rfl, .inl (sq_lst hD), ?_, ?_⟩
      · rw [lens, sum_ones, show (S []).length = 0 from rfl, Nat.mul_zero, Nat.add_zero]; omega
      · rw [join_S]
        rw [join_ones]
        exact k _ _ (by omega) ct a2 kp2
end
end M06

namespace M06
open PySem PySem.Spec PyProof.Rows L2 SX
open C8 (Cal pe_c pe_gc pss_cut)
theorem cp_sp (m : Nat) : Cp (List.replicate m [32]).flatten := Cp.of fun c h => by
  obtain ⟨l, h1, h2⟩ := List.mem_flatten.mp h
  rw [List.eq_of_mem_replicate h1] at h2
  rw [List.mem_singleton.mp h2]; decide
section
variable {P : Program} {w : World} {K : PySem.W.Frag} {mg : Str → Option Value} {base : Heap}
abbrev s_Lpiece : Stmt := topS 12
abbrev n_Lpiece : List Str := ["heap", "letters", "digits", "kind"]
theorem sc_Lpiece : FnScope n_Lpiece ["heap"] (defScope s_Lpiece) := ⟨rfl, rfl, rfl, by decide +kernel, rfl, by decide +kernel, by decide +kernel⟩

def spPiece : Sp := fun vs H Q _ => ∃ (h q : Addr), vs = [.ref h] ∧ HpAt H h q ∧ ∀ (t : Tx) H', t.length ≤ 9 → Cp t → HpAt H' h q → Keep h q H H' → Q (.str (S t)) H'
theorem ok_piece {f : Addr} {fd : FuncData} (F : Fun K "_law_piece" "_law_piece" s_Lpiece f fd) (T : Txt6 mg) (c_Ldraw : Cal P w K mg base 1 "_law_draw" spDraw []) (c_LpickS : Cal P w K mg base 2 "_law_pick" spPickS []) (c_Lpick : Cal P w K mg base 2 "_law_pick" spPickL []) (c_Lrun : Cal P w K mg base 3 "_law_run" spRunL []) : FnOk P w K mg base CX0 4 f fd ["heap"] spPiece := by
  refine F.ok sc_Lpiece (fun vs H Q E h => ?_) (fun cdv A outer s H vs Q E hr h => ?_)
  · obtain ⟨h, q, rfl, _⟩ := h
    rfl
  · obtain ⟨h, q, rfl, a, k⟩ := h
    refine ⟨_, (pss_cons (ps_par3 (i := 1) (j := 2) (l := 3) (by rfl) sc_Lpiece.nd rfl rfl rfl (by decide) (by decide) (by decide) rfl rfl rfl (pa_cons pe_str (pa_cons pe_str (pa_cons (pe_c c_Ldraw hr (by decide) (by rfl) (pa_cons (pv 0) (pa_cons pe_int pa_nil))) pa_nil))) (by rfl))
      (pss_cons (ps_if (pt_cmpR op_eq (pv 3) pe_int (nomark _)) (pss_one (ps_ret (pe_c c_Lrun hr (by decide) (by rfl) (pa_cons (pv 0) (pa_cons (pv 1) (pa_cons pe_int pa_nil)))))) pss_nil)
      (pss_cons (ps_if (pt_cmpR op_eq (pv 3) pe_int (nomark _)) (pss_one (ps_ret (pe_c c_Lrun hr (by decide) (by rfl) (pa_cons (pv 0) (pa_cons (pv 2) (pa_cons pe_int pa_nil)))))) pss_nil)
      (pss_cons (ps_if (pt_cmpR op_eq (pv 3) pe_int (nomark _)) (pss_one (ps_ret (pe_op op_add_str (pe_op op_add_str (pe_c c_Lrun hr (by decide) (by rfl) (pa_cons (pv 0) (pa_cons (pv 2) (pa_cons pe_int pa_nil)))) pe_str) (pe_c c_Lrun hr (by decide) (by rfl) (pa_cons (pv 0) (pa_cons (pv 2) (pa_cons pe_int pa_nil))))))) pss_nil)
      (pss_cons (ps_if (pt_cmpR op_eq (pv 3) pe_int (nomark _)) (pss_one (ps_ret (pe_c c_Lrun hr (by decide) (by rfl) (pa_cons (pv 0) (pa_cons (pe_c c_Lpick hr (by decide) (by rfl) (pa_cons (pv 0) (pa_cons (pe_lst (pa_cons pe_str (pa_cons pe_str (pa_cons pe_str (pa_cons pe_str (pa_cons pe_str (pa_cons pe_str pa_nil))))))) pa_nil))) (pa_cons pe_int pa_nil)))))) pss_nil)
      (pss_cons (ps_if (pt_cmpR op_eq (pv 3) pe_int (nomark _)) (pss_one (ps_ret (pe_c c_Lpick hr (by decide) (by rfl) (pa_cons (pv 0) (pa_cons (pe_lst (pa_cons pe_str (pa_cons pe_str (pa_cons pe_str (pa_cons pe_str (pa_cons pe_str (pa_cons pe_str (pa_cons pe_str (pa_cons pe_str (pa_cons pe_str (pa_cons pe_str pa_nil))))))))))) pa_nil))))) pss_nil)
      (pss_cons (ps_if (pt_cmpR op_eq (pv 3) pe_int (nomark _)) (pss_one (ps_ret (pe_c c_Lpick hr (by decide) (by rfl) (pa_cons (pv 0) (pa_cons (pe_lst (pa_cons pe_str (pa_cons pe_str (pa_cons pe_str (pa_cons pe_str (pa_cons pe_str (pa_cons pe_str pa_nil))))))) pa_nil))))) pss_nil)
      (pss_cons (ps_if (pt_cmpR op_eq (pv 3) pe_int (nomark _)) (pss_one (ps_ret (pe_c c_LpickS hr (by decide) (by rfl) (pa_cons (pv 0) (pa_cons pe_str pa_nil))))) pss_nil)
      (pss_one (ps_ret (pe_ifExp (pt_cmpR op_eq (pv 3) pe_int (nomark _)) pe_str (pe_c c_Lpick hr (by decide) (by rfl) (pa_cons (pv 0) (pa_cons (pe_lst (pa_cons pe_str (pa_cons pe_str (pa_cons pe_str (pa_cons pe_str (pa_cons pe_str (pa_cons pe_str pa_nil))))))) pa_nil)))))))))))))), ?_⟩
    refine ⟨_, rfl, h, q, 9, rfl, a, by decide, by decide, fun d H1 d0 d1 a1 kp1 => ?_⟩
    refine ⟨_, _, _, rfl, ?_⟩
    have KK : ∀ (t : Tx) H', t.length ≤ 9 → Cp t → HpAt H' h q → Keep h q H1 H' → Q (.str (S t)) H' := fun t H' l9 ct a' kp => k t H' l9 ct a' (kp1.trans kp)
    have pickS : ∀ (xs : List Str) (m : Nat) (R : V → Hp → Prop), m ≤ 9 → xs ≠ [] → xs.length ≤ 1000 → xs.all (fun z => (decide (1 ≤ z.cps.toList.length) && decide (z.cps.toList.length ≤ m)) && z.cps.toList.all (fun c => decide (c < 1114112))) = true →
        (∀ (t : Tx) H', t ≠ [] → t.length ≤ m → Cp t → HpAt H' h q → Keep h q H1 H' → R (.str (S t)) H') → ∀ p, H1 p = none → spPickL [.ref h, .ref p] (upd H1 p (.lst (xs.map V.str))) R (fun _ _ _ => False) := by
      intro xs m R hm hx hl hall hR p np
      have nf := a1.fresh np
      refine ⟨h, q, p, _, rfl, a1.upd nf.1 nf.2, upd_same, nf.1, nf.2, by simpa using hx, by rw [List.length_map]; exact hl, fun v H' hv a' kp => ?_⟩
      obtain ⟨t, rfl, t1, t2, t3⟩ := strs_in hv hall
      exact hR t H' t1 t2 t3 a' ((Keep.refl h q H1).at_new np |>.trans kp)
    -- kind == 0 .. 2
    refine ⟨_, rfl, rfl, _, rfl, ite2 (fun _ => ?_) (fun _ => ?_)⟩
    · exact ⟨_, rfl, _, rfl, h, q, _, 9, by rw [← tx]; rfl, a1, by decide +kernel, by decide +kernel, by unfold Cp; decide +kernel, by decide, by decide, fun t H' l9 ct a' kp => KK t H' (by omega) ct a' kp⟩
    refine ⟨_, rfl, rfl, _, rfl, ite2 (fun _ => ?_) (fun _ => ?_)⟩
    · exact ⟨_, rfl, _, rfl, h, q, _, 9, by rw [← tx]; rfl, a1, by decide +kernel, by decide +kernel, by unfold Cp; decide +kernel, by decide, by decide, fun t H' l9 ct a' kp => KK t H' (by omega) ct a' kp⟩
    refine ⟨_, rfl, rfl, _, rfl, ite2 (fun _ => ?_) (fun _ => ?_)⟩
    · refine ⟨_, rfl, _, rfl, h, q, _, 3, by rw [← tx]; rfl, a1, by decide +kernel, by decide +kernel, by unfold Cp; decide +kernel, by decide, by decide, fun t H2 l3 ct a2 kp2 => ?_⟩
      refine ⟨S t, _, rfl, rfl, ?_, _, rfl, _, rfl, h, q, _, 3, by rw [← tx]; rfl, a2, by decide +kernel, by decide +kernel, by unfold Cp; decide +kernel, by decide, by decide, fun u H3 l3' cu a3 kp3 => ?_⟩
      · rw [S_len]; exact sl6 (by have : (Str.ofString "/").length = 1 := by decide +kernel
                                  omega)
      · refine ⟨_, S u, rfl, rfl, ?_, ?_⟩
        · rw [z47, S_cat, S_len, S_len, List.length_append]; exact sl6 (by simp; omega)
        · rw [z47, S_cat, S_cat]
          exact KK _ _ (by simp; omega) ((ct.app (by unfold Cp; decide)).app cu) a3 (kp2.trans kp3)
    refine ⟨_, rfl, rfl, _, rfl, ite2 (fun _ => ?_) (fun _ => ?_)⟩
    · refine ⟨_, rfl, _, rfl, (by show 6 ≤ sizeLine; decide), fun p np => ?_⟩
      refine pickS ["01/", "2/ ", "a/9", "z1", "<>=", "=>"] 3 _ (by decide) (by decide) (by decide) (by decide +kernel) (fun t H' t1 t2 ct a' kp => ?_) p np
      exact ⟨h, q, t, 6, rfl, a', t1, by omega, ct, by decide, by decide, fun u H2 l6 cu a2 kp2 => KK u H2 (by omega) cu a2 (kp.trans kp2)⟩
    refine ⟨_, rfl, rfl, _, rfl, ite2 (fun _ => ?_) (fun _ => ?_)⟩
    · refine ⟨_, rfl, (by show 10 ≤ sizeLine; decide), fun p np => ?_⟩
      exact pickS [">=", "<=", "=", ">", "<", "=>", "==", ">>=", "<==", "=<"] 3 _ (by decide) (by decide) (by decide) (by decide +kernel) (fun t H' t1 t2 ct a' kp => KK t H' (by omega) ct a' kp) p np
    refine ⟨_, rfl, rfl, _, rfl, ite2 (fun _ => ?_) (fun _ => ?_)⟩
    · refine ⟨_, rfl, (by show 6 ≤ sizeLine; decide), fun p np => ?_⟩
      exact pickS ["+", "-", "/", "//", "+-", "--"] 3 _ (by decide) (by decide) (by decide) (by decide +kernel) (fun t H' t1 t2 ct a' kp => KK t H' (by omega) ct a' kp) p np
    refine ⟨_, rfl, rfl, _, rfl, ite2 (fun _ => ?_) (fun _ => ?_)⟩
    · exact ⟨_, rfl, h, q, _, by rw [← tx]; rfl, a1, by decide +kernel, by decide +kernel, fun c H' hc a' kp => KK [c] H' (by simp) (Cp.of fun x hx => by rw [List.mem_singleton.mp hx]; exact Cp.mem (t := (Str.ofString "!#$&'()*+,-./:;<=>?@AZ[]^_`{|}~").cps.toList) (by unfold Cp; decide +kernel) hc) a' kp⟩
    refine ⟨_, rfl, rfl, _, rfl, ite2 (fun _ => ?_) (fun _ => ?_)⟩
    · have := KK [10] H1 (by simp) (by unfold Cp; decide) a1 (Keep.refl _ _ _)
      rw [← z10] at this; exact this
    · refine ⟨_, rfl, (by show 6 ≤ sizeLine; decide), fun p np => ?_⟩
      exact pickS ["none", "free", "0", "x", "1/2", "-"] 4 _ (by decide) (by decide) (by decide) (by decide +kernel) (fun t H' t1 t2 ct a' kp => KK t H' (by omega) ct a' kp) p np
abbrev s_Ltext : Stmt := topS 18
abbrev n_Ltext : List Str := ["heap", "many", "text", "turn"]
theorem sc_Ltext : FnScope n_Ltext ["heap", "many"] (defScope s_Ltext) := ⟨rfl, rfl, rfl, by decide +kernel, rfl, by decide +kernel, by decide +kernel⟩

def spText : Sp := fun vs H Q _ => ∃ (h q : Addr) (n : Int), vs = [.ref h, .int n] ∧ HpAt H h q ∧ 0 ≤ n ∧ n ≤ 20 ∧ ∀ (t : Tx) H', t.length ≤ 1000 → Cp t → HpAt H' h q → Keep h q H H' → Q (.str (S t)) H'
theorem ok_text {f : Addr} {fd : FuncData} (F : Fun K "_law_text" "_law_text" s_Ltext f fd) (T : Txt6 mg) (c_Ldraw : Cal P w K mg base 1 "_law_draw" spDraw []) (c_Lpick : Cal P w K mg base 2 "_law_pick" spPickL []) (c_Lpiece : Cal P w K mg base 4 "_law_piece" spPiece []) : FnOk P w K mg base CX0 5 f fd ["heap", "many"] spText := by
  refine F.ok sc_Ltext (fun vs H Q E h => ?_) (fun cdv A outer s H vs Q E hr h => ?_)
  · obtain ⟨h, q, n, rfl, _⟩ := h
    rfl
  · obtain ⟨h, q, n, rfl, a, n0, n1, k⟩ := h
    refine ⟨_, (pss_cons (ps_set (i := 2) sc_Ltext.nd rfl (.inl rfl) (pe_op op_mulS pe_str (pe_c c_Ldraw hr (by decide) (by rfl) (pa_cons (pv 0) (pa_cons pe_int pa_nil)))))
      (pss_cons (ps_for PassesOwn.never rfl (pi_range1 (by rfl) T.b_range (pa_cons (pv 1) pa_nil)) (pg_name (i := 3) sc_Ltext.nd rfl (.inl rfl)) (pss_one (ps_set (i := 2) sc_Ltext.nd rfl (.inl rfl) (pe_op op_add_str (pe_op op_add_str (pv 2) (pe_c c_Lpiece hr (by decide) (by rfl) (pa_cons (pv 0) pa_nil))) (pe_op op_mulS pe_str (pe_c c_Lpick hr (by decide) (by rfl) (pa_cons (pv 0) (pa_cons (pe_lst (pa_cons pe_int (pa_cons pe_int (pa_cons pe_int (pa_cons pe_int (pa_cons pe_int pa_nil)))))) pa_nil))))))))
      (pss_one (ps_ret (pv 2))))), ?_⟩
    refine ⟨_, rfl, h, q, 2, rfl, a, by decide, by decide, fun d H1 d0 d1 a1 kp1 => ?_⟩
    obtain ⟨j, rfl⟩ : ∃ j : Nat, d = (j : Int) := ⟨d.toNat, by omega⟩
    refine ⟨[32], j, by rw [← z32], rfl, by decide, by omega, ?_⟩
    refine ⟨_, rfl, n, rfl, by omega, by omega, for_range (lo := 0) (n := n.toNat) (fun i σ H' => ∃ (t : Tx) (y : Option V), σ = [some (.ref h), some (.int n), some (.str (S t)), y] ∧ t.length ≤ 2 + 11 * i ∧ Cp t ∧ HpAt H' h q ∧ Keep h q H H')
      ⟨_, none, rfl, ?_, cp_sp j, a1, kp1⟩ ?_ ?_⟩
    · simp; omega
    · rintro i σ H2 hi ⟨t, y, rfl, tl, ct, a2, kp2⟩
      refine ⟨_, rfl, _, rfl, h, q, rfl, a2, fun u H3 l9 cu a3 kp3 => ?_⟩
      refine ⟨S t, S u, rfl, rfl, (by rw [S_len, S_len]; exact sl6 (by omega)), _, rfl, (by show 5 ≤ sizeLine; decide), fun p np => ?_⟩
      have nf := a3.fresh np
      have npH := (kp2.trans kp3).free np nf.1 nf.2
      refine ⟨h, q, p, _, rfl, a3.upd nf.1 nf.2, upd_same, nf.1, nf.2, by simp, by simp, fun v H4 hv a4 kp4 => ?_⟩
      obtain ⟨m, rfl, hm⟩ : ∃ m : Nat, v = .int (m : Int) ∧ m ≤ 2 := by
        rcases List.mem_cons.mp hv with e | hv
        · exact ⟨0, e, by omega⟩
        rcases List.mem_cons.mp hv with e | hv
        · exact ⟨0, e, by omega⟩
        rcases List.mem_cons.mp hv with e | hv
        · exact ⟨1, e, by omega⟩
        rcases List.mem_cons.mp hv with e | hv
        · exact ⟨1, e, by omega⟩
        · exact ⟨2, List.mem_singleton.mp hv, by omega⟩
      refine ⟨[32], m, by rw [← z32], rfl, by decide, by omega, ?_⟩
      refine ⟨_, _, rfl, rfl, ?_, t ++ u ++ (List.replicate m [32]).flatten, some (.int (0 + (i : Int))), ?_, ?_, (ct.app cu).app (cp_sp m), a4, ?_⟩
      · rw [S_cat, S_len, S_len]; exact sl6 (by simp; omega)
      · rw [S_cat, S_cat]; rfl
      · simp; omega
      · exact ((kp2.trans kp3).at_new npH).trans kp4
    · rintro σ H2 ⟨t, y, rfl, tl, ct, a2, kp2⟩
      exact ⟨_, rfl, k t H2 (by omega) ct a2 kp2⟩
end
end M06

namespace M06
open PySem PySem.Spec PyProof.Rows L2 SX
open C8 (Cal pe_c pe_gc pss_cut)

theorem spl_len (s : Nat) : ∀ (n : Nat) (l : Tx), l.length ≤ n → (TL.spl [s] 0 [] l).length ≤ l.length + 1 ∧ ∀ x ∈ TL.spl [s] 0 [] l, x.length ≤ l.length := by
  intro n
  induction n with
  | zero =>
    intro l h
    have : l = [] := List.length_eq_zero_iff.mp (by omega)
    subst this
    rw [TL.spl_nil]
    exact ⟨by simp, fun x hx => by rw [List.mem_singleton.mp hx]; simp⟩
  | succ n ih =>
    intro l h
    by_cases hm : s ∈ l
    · obtain ⟨a, b, rfl, ha⟩ := first_cut hm
      have e : TL.spl [s] 0 [] (a ++ s :: b) = a :: TL.spl [s] 0 [] b := spl_cut ha
      have hb := ih b (by rw [List.length_append, List.length_cons] at h; omega)
      rw [e]
      refine ⟨by simp only [List.length_cons, List.length_append]; omega, fun x hx => ?_⟩
      rcases List.mem_cons.mp hx with z | z
      · rw [z, List.length_append]; omega
      · have := hb.2 x z
        simp only [List.length_cons, List.length_append]; omega
    · have e : TL.spl [s] 0 [] l = [l] := spl_free1 hm
      rw [e]
      exact ⟨by simp, fun x hx => by rw [List.mem_singleton.mp hx]; omega⟩
def LS : Tx := (Str.ofString "abcdefghijklmnopqrstuvwxyz").cps.toList
def DS : Tx := (Str.ofString "0123456789").cps.toList
theorem ls_in (c : Nat) : decide (c ∈ (Str.ofString "abcdefghijklmnopqrstuvwxyz").cps.toList) = isL c := by
  have e : (Str.ofString "abcdefghijklmnopqrstuvwxyz").cps.toList = LET := by decide +kernel
  rw [e]; exact congrFun let_in c
theorem ds_in (c : Nat) : decide (c ∈ (Str.ofString "0123456789").cps.toList) = isD c := by
  have e : (Str.ofString "0123456789").cps.toList = DIG := by decide +kernel
  rw [e]; exact congrFun dig_in c
theorem all_map (p : Nat → Bool) (l : Tx) : (l.map p).all id = l.all p := by rw [List.all_map]; rfl
theorem sl7 {n : Nat} (h : n ≤ 200002) : n < sizeLine := Nat.lt_of_le_of_lt h (by decide)
theorem get_take {α β : Type} (f : α → β) {l : List α} {i : Nat} {c : α} (h : l[i]? = some c) : (l.take (i + 1)).map f = (l.take i).map f ++ [f c] := by
  rw [List.take_add_one, h, List.map_append]; rfl
theorem cps_get (l : Tx) (i : Nat) : (S l).cps[i]? = l[i]? := by
  show (l.toArray)[i]? = l[i]?
  simp
theorem split_47 (l : Tx) : Txt.split (S l) (Str.ofString "/") = (parts l).map S := by
  rw [z47, split_S (by decide) (by decide)]; rfl
section
variable {P : Program} {w : World} {K : PySem.W.Frag} {mg : Str → Option Value} {base : Heap}
abbrev s_Lis_mark : Stmt := topS 13
abbrev n_Lis_mark : List Str := ["piece", "letters", "digits", "parts", "sign", "part"]
theorem sc_Lis_mark : FnScope n_Lis_mark ["piece"] (defScope s_Lis_mark) := ⟨rfl, rfl, rfl, by decide +kernel, rfl, by decide +kernel, by decide +kernel⟩

def spIs : Sp := fun vs H Q _ => ∃ (l : Tx), vs = [.str (S l)] ∧ l.length ≤ 100000 ∧ ∀ H', Same H H' → Q (.bl (isMark l)) H'
theorem ok_is {f : Addr} {fd : FuncData} (F : Fun K "_law_is_mark" "_law_is_mark" s_Lis_mark f fd) (T : Txt6 mg) : FnOk P w K mg base CX0 1 f fd ["piece"] spIs := by
  refine F.ok sc_Lis_mark (fun vs H Q E h => ?_) (fun cdv A outer s H vs Q E hr h => ?_)
  · obtain ⟨l, rfl, _⟩ := h
    rfl
  · obtain ⟨l, rfl, hl, k⟩ := h
    refine ⟨_, (pss_cons (ps_asg (pe_tup (pa_cons pe_str (pa_cons pe_str pa_nil))) (pg_tup rfl (pgs_cons (pg_name (i := 1) sc_Lis_mark.nd rfl (.inr rfl)) (pgs_cons (pg_name (i := 2) sc_Lis_mark.nd rfl (.inr rfl)) pgs_nil))))
      (pss_cons (ps_if (PW.pt (pw_or (pt_cmpR op_eq (pe_callB call_len_str (by rfl) T.b_len (by decide +kernel) (pa_cons (pv 0) pa_nil)) pe_int (nomark _)) (pw_or (pt_cmpR op_in_seq (pv 0) (pe_tup (pa_cons pe_str (pa_cons pe_str pa_nil))) (by rfl)) (pw_or1 (pt_val (pe_callB (cr_all rfl) (by rfl) T.b_all (by decide +kernel) (pa_cons (pe_lc (own := [("sign", 4)]) rfl sc_Lis_mark.nd (pi_str (pv 0)) (blkOk_by (N := n_Lis_mark) (sc := defScope s_Lis_mark) (by decide +kernel)) (fun _ _ _ _ _ => (pg_name (i := 4) sc_Lis_mark.nd rfl (.inl rfl))) (fun _ _ _ _ _ => pts_nil) (fun _ _ _ _ _ => (pe_cmpR op_in_sign (pv 4) (pv 1) (by rfl)))) pa_nil))))))) (pss_one (ps_ret pe_bl)) pss_nil)
      (pss_cons (ps_set (i := 3) sc_Lis_mark.nd rfl (.inl rfl) (pe_split (pv 0) pe_str))
      (pss_one (ps_ret (pe_and (pe_cmpR op_lt (pe_callB call_len_seq (by rfl) T.b_len (by decide +kernel) (pa_cons (pv 3) pa_nil)) pe_int (nomark _)) (pe_one (pe_callB (cr_all rfl) (by rfl) T.b_all (by decide +kernel) (pa_cons (pe_lc (own := [("part", 5)]) rfl sc_Lis_mark.nd (pi_list (pv 3)) (blkOk_by (N := n_Lis_mark) (sc := defScope s_Lis_mark) (by decide +kernel)) (fun _ _ _ _ _ => (pg_name (i := 5) sc_Lis_mark.nd rfl (.inl rfl))) (fun _ _ _ _ _ => pts_nil) (fun _ _ _ _ _ => (pe_and (pe_cmpR op_ne (pv 5) pe_str (nomark _)) (pe_one (pe_callB (id := "all") (r := rAll K) (cr_all rfl) (by rfl) T.b_all (by decide +kernel) (pa_cons (pe_lc (own := [("sign", 4)]) rfl sc_Lis_mark.nd (pi_str (pv 5)) (blkOk_by (own := [("sign", 4)]) (scope := { kind := .function, names := [(".0", .local), ("sign", .local), ("digits", .free)], isGenerator := false, isCoroutine := false }) (N := n_Lis_mark) (sc := { kind := .function, names := [(".0", .local), ("part", .local), ("all", .globalImplicit), ("digits", .cell)], isGenerator := false, isCoroutine := false }) (by decide +kernel)) (fun _ _ _ _ _ => (pg_name (i := 4) sc_Lis_mark.nd rfl (.inl rfl))) (fun _ _ _ _ _ => pts_nil) (fun _ _ _ _ _ => (pe_cmpR op_in_sign (pv 4) (pv 2) (by rfl)))) pa_nil)))))) pa_nil))))))))), ?_⟩
    refine ⟨(by show 2 ≤ sizeLine; decide), fun t nt => ?_⟩
    have sm0 : Same H _ := same_upd (o := .tup [.str (Str.ofString "abcdefghijklmnopqrstuvwxyz"), .str (Str.ofString "0123456789")]) nt
    have ht : upd H t (.tup [.str (Str.ofString "abcdefghijklmnopqrstuvwxyz"), .str (Str.ofString "0123456789")]) t = some (.tup [.str (Str.ofString "abcdefghijklmnopqrstuvwxyz"), .str (Str.ofString "0123456789")]) := upd_same
    generalize upd H t (.tup [.str (Str.ofString "abcdefghijklmnopqrstuvwxyz"), .str (Str.ofString "0123456789")]) = H1 at sm0 ht
    refine ⟨t, _, rfl, sq_tup ht, rfl, _, _, rfl, _, _, rfl, rfl, ?_⟩
    have LL : l.length < sizeLine := sl7 (by omega)
    -- len(piece) == 1
    refine ⟨_, rfl, _, rfl, len6 hl, rfl, _, rfl, ite2 (fun h1 => ?_) (fun h1 => ?_)⟩
    · have h1 : l.length = 1 := by have := V.int.inj (of_decide_eq_true h1); rw [S_len] at this; omega
      refine iteT ?_
      have e : isMark l = true := (mark_iff l).mpr (.inl h1)
      rw [← e]; exact k H1 sm0
    have h1 : ¬ l.length = 1 := fun z => h1 (decide_eq_true (by rw [S_len, z]; rfl))
    -- piece in two
    refine ⟨_, rfl, (by show 2 ≤ sizeLine; decide), fun p np => ⟨p, _, rfl, .inr (sq_tup upd_same), rfl, rfl, _, rfl, ?_⟩⟩
    show if (inV _ _) = true then _ else _
    rw [two_in]
    have sm1 := same_at (o := .tup [.str (Str.ofString ">="), .str (Str.ofString "<=")]) sm0 (sm0.free np)
    generalize upd H1 p (.tup [.str (Str.ofString ">="), .str (Str.ofString "<=")]) = H2 at sm1
    refine ite2 (fun h2 => ?_) (fun h2 => ?_)
    · refine iteT ?_
      have e : isMark l = true := by
        rw [Bool.or_eq_true, beq_iff_eq, beq_iff_eq] at h2
        rcases h2 with h | h
        · exact (mark_iff l).mpr (.inr (.inl h))
        · exact (mark_iff l).mpr (.inr (.inr (.inl h)))
      rw [← e]; exact k H2 sm1
    -- all letters
    refine ⟨_, rfl, S l, rfl, fun D nD => ?_⟩
    have nDH := sm1.free nD
    refine lc_it walk_str (fun i H' => H' D = some (.lst (((l.take i).map isL).map V.bl)) ∧ Same H H') ⟨upd_same, same_at sm1 nDH⟩ (fun _ _ _ _ => trivial) ?_ ?_
    · rintro i x H3 H4 hi ⟨hD, sm⟩ ⟨rfl, c, hc, rfl⟩
      rw [cps_get] at hc
      refine ⟨rfl, _, rfl, _, rfl, c, _, rfl, rfl, _, hD, (by rw [List.length_map, List.length_map, List.length_take]; omega), ?_, same_at sm nDH⟩
      rw [upd_same, ls_in, List.map_map, List.map_map, get_take _ hc]; rfl
    · rintro H3 ⟨hD, sm3⟩
      have esz : (S l).cps.size = l.length := S_len l
      rw [esz, List.take_length] at hD
      refine ⟨D, l.map isL, rfl, sq_lst hD, _, rfl, ?_⟩
      rw [all_map]
      refine ite2 (fun h3 => ?_) (fun h3 => ?_)
      · have e : isMark l = true := (mark_iff l).mpr (.inr (.inr (.inr (.inl h3))))
        rw [← e]; exact k H3 sm3
      -- parts = piece.split('/')
      refine ⟨_, rfl, ⟨_, rfl⟩, S l, _, rfl, rfl, by decide +kernel, (by rw [S_len]; exact Nat.le_of_lt (sl7 (by omega))), fun q nq => ?_⟩
      rw [split_47]
      have nqH := sm3.free nq
      have sm4 := same_at (o := .lst (((parts l).map S).map V.str)) sm3 nqH
      have pl := spl_len 47 l.length l (Nat.le_refl _)
      have hq : upd H3 q (.lst (((parts l).map S).map V.str)) q = some (.lst (((parts l).map S).map V.str)) := upd_same
      generalize upd H3 q (.lst (((parts l).map S).map V.str)) = H4 at sm4 hq
      refine ⟨_, rfl, q, _, rfl, .inl (sq_lst hq), _, _, rfl, rfl, _, rfl, ite2 (fun h4 => ?_) (fun h4 => ?_)⟩
      · have h4 : (parts l).length < 3 := by
          have := of_decide_eq_true h4; rw [List.length_map, List.length_map] at this; omega
        refine ⟨_, rfl, q, rfl, ⟨_, sq_lst hq⟩, fun D2 nD2 => ?_⟩
        have nD2H := sm4.free nD2
        have hqD : q ≠ D2 := ne_of_none hq nD2
        refine lc_list (K := K) (a := q) (xs := ((parts l).map S).map V.str) (fun i H' => H' D2 = some (.lst ((((parts l).take i).map fun q => q != [] && q.all isD).map V.bl)) ∧ H' q = some (.lst (((parts l).map S).map V.str)) ∧ Same H H')
          ⟨upd_same, by rw [upd_ne hqD]; exact hq, same_at sm4 nD2H⟩ (fun i H' _ e => sq_lst e.2.1) ?_ ?_
        · rintro i x H5 hi ⟨hD2, hq5, sm5⟩
          obtain ⟨part, hp, rfl⟩ : ∃ part, (parts l)[i]? = some part ∧ x = .str (S part) := by
            rw [List.getElem?_map, List.getElem?_map] at hi
            cases e : (parts l)[i]? with
            | none => rw [e] at hi; cases hi
            | some z => rw [e] at hi; exact ⟨z, rfl, (Option.some.inj hi).symm⟩
          have hpl := pl.2 part (List.mem_of_getElem? hp)
          refine ⟨rfl, _, rfl, rfl, _, rfl, ite2 (fun h5 => ?_) (fun h5 => ?_)⟩
          · have h5 : part ≠ [] := fun z => not_dec h5 ((str_eq z0).mpr z)
            refine ⟨_, rfl, S part, rfl, fun D3 nD3 => ?_⟩
            have nD3H := sm5.free nD3
            have h23 : D2 ≠ D3 := ne_of_none hD2 nD3
            have hq3 : q ≠ D3 := ne_of_none hq5 nD3
            refine lc_it walk_str (fun j H' => H' D3 = some (.lst (((part.take j).map isD).map V.bl)) ∧ H' D2 = some (.lst ((((parts l).take i).map fun q => q != [] && q.all isD).map V.bl)) ∧ H' q = some (.lst (((parts l).map S).map V.str)) ∧ Same H H')
              ⟨upd_same, by rw [upd_ne h23]; exact hD2, by rw [upd_ne hq3]; exact hq5, same_at sm5 nD3H⟩ (fun _ _ _ _ => trivial) ?_ ?_
            · rintro j x H6 H7 hj ⟨hD3, hD2', hq6, sm6⟩ ⟨rfl, c, hc, rfl⟩
              rw [cps_get] at hc
              refine ⟨rfl, _, rfl, _, rfl, c, _, rfl, rfl, _, hD3, (by rw [List.length_map, List.length_map, List.length_take]; exact Nat.lt_of_le_of_lt (Nat.min_le_right _ _) (sl7 (by omega))), ?_, by rw [upd_ne h23]; exact hD2', by rw [upd_ne hq3]; exact hq6, same_at sm6 nD3H⟩
              rw [upd_same, ds_in, List.map_map, List.map_map, get_take _ hc]; rfl
            · rintro H6 ⟨hD3, hD2', hq6, sm6⟩
              have esz : (S part).cps.size = part.length := S_len part
              rw [esz, List.take_length] at hD3
              refine ⟨D3, part.map isD, rfl, sq_lst hD3, _, hD2', (by rw [List.length_map, List.length_map, List.length_take]; exact Nat.lt_of_le_of_lt (Nat.min_le_left _ _) (sl7 (by have := (List.getElem?_eq_some_iff.mp hp).1; omega))), ?_, by rw [upd_ne hqD]; exact hq6, same_at sm6 nD2H⟩
              rw [upd_same, all_map, List.map_map, List.map_map, get_take _ hp]
              simp [h5]
          · have h5 : part = [] := (str_eq z0).mp (of_not_dec h5)
            refine ⟨_, hD2, (by rw [List.length_map, List.length_map, List.length_take]; exact Nat.lt_of_le_of_lt (Nat.min_le_left _ _) (sl7 (by have := (List.getElem?_eq_some_iff.mp hp).1; omega))), ?_, by rw [upd_ne hqD]; exact hq5, same_at sm5 nD2H⟩
            rw [upd_same, List.map_map, List.map_map, get_take _ hp]
            simp [h5]
        · rintro H5 ⟨hD2, hq5, sm5⟩
          rw [List.length_map, List.length_map, List.take_length] at hD2
          refine ⟨D2, (parts l).map fun q => q != [] && q.all isD, rfl, sq_lst hD2, ?_⟩
          have e : isMark l = ((parts l).map fun q => q != [] && q.all isD).all id := by
            rw [List.all_map]
            have e3 : l.all isL = false := by simpa using h3
            have e2 : (l == [62, 61] || l == [60, 61]) = false := by simpa using h2
            unfold isMark
            rw [decide_eq_false h1, e2, e3, decide_eq_true h4]
            simp [Function.comp_def]
          rw [← e]; exact k H5 sm5
      · have h4 : ¬ (parts l).length < 3 := fun z => h4 (decide_eq_true (by rw [List.length_map, List.length_map]; omega))
        have e : isMark l = false := by
          have e3 : l.all isL = false := by simpa using h3
          have e2 : (l == [62, 61] || l == [60, 61]) = false := by simpa using h2
          unfold isMark
          rw [decide_eq_false h1, e2, e3, decide_eq_false h4]; rfl
        rw [← e]; exact k H4 sm4
end
end M06

namespace M06
open PySem PySem.Spec PyProof.Rows L2 SX
open C8 (Cal pe_c pe_gc pss_cut)

theorem lex_len : ∀ (l : Tx) (ln col : Nat), (lex ln col l).length ≤ l.length := by
  intro l
  refine by_marks (P := fun l => ∀ ln col, (lex ln col l).length ≤ l.length) ?_ ?_ ?_ ?_ l.length l (Nat.le_refl _)
  · intro ln col; exact Nat.le_refl _
  · intro r ih ln col; rw [lex_sp, List.length_cons]; exact Nat.le_succ_of_le (ih _ _)
  · intro r ih ln col; rw [lex_nl, List.length_cons, List.length_cons]; exact Nat.succ_le_succ (ih _ _)
  · intro c r h1 h2 ih ln col
    have := ih ln (col + markLen (c :: r))
    have hd := drop_lt (c := c) (r := r)
    rw [lex_mk _ _ h1 h2, List.length_cons, List.length_cons]; omega
theorem room_len : ∀ l : Tx, (room l).length ≤ l.length := fun l => by
  rcases room_cut l with z | ⟨r, z⟩
  · rw [← z]; exact Nat.le_refl _
  · conv => rhs; rw [z]
    rw [List.length_append]; omega
theorem upto_len (l : Tx) {i : Nat} (h : i ≤ (lines l).length) : (cutUpto (lines l) i).length ≤ l.length := by
  have h1 := cutUpto_all (lines l) i h
  have h2 := lex_lines l.length l 0 (Nat.le_refl _)
  have h3 := lex_len l 0 0
  rw [h2, ← h1, List.length_append] at h3
  omega
theorem split_32 (l : Tx) : Txt.split (S l) (Str.ofString " ") = (TL.spl [32] 0 [] l).map S := by
  rw [z32, split_S (by decide) (by decide)]
theorem split_10 (l : Tx) : Txt.split (S l) (Str.ofString "\n") = (lines l).map S := by
  rw [z10, split_S (by decide) (by decide)]; rfl
theorem get_strs {ls : List Tx} {i : Nat} {x : Tx} (h : ls[i]? = some x) : ((ls.map S).map V.str)[i]? = some (.str (S x)) := by
  rw [List.getElem?_map, List.getElem?_map, h]; rfl
section
variable {P : Program} {w : World} {K : PySem.W.Frag} {mg : Str → Option Value} {base : Heap}
abbrev s_Lsize : Stmt := topS 14
abbrev n_Lsize : List Str := ["room", "size", "stop"]
theorem sc_Lsize : FnScope n_Lsize ["room"] (defScope s_Lsize) := ⟨rfl, rfl, rfl, by decide +kernel, rfl, by decide +kernel, by decide +kernel⟩

def spSize : Sp := fun vs H Q _ => ∃ (l : Tx), vs = [.str (S l)] ∧ l.length ≤ 100000 ∧ ∀ H', Same H H' → Q (.int ((sizeOf l : Nat) : Int)) H'
theorem ok_size {f : Addr} {fd : FuncData} (F : Fun K "_law_size" "_law_size" s_Lsize f fd) (T : Txt6 mg) (c_Lis_mark : Cal P w K mg base 1 "_law_is_mark" spIs []) : FnOk P w K mg base CX0 2 f fd ["room"] spSize := by
  refine F.ok sc_Lsize (fun vs H Q E h => ?_) (fun cdv A outer s H vs Q E hr h => ?_)
  · obtain ⟨l, rfl, _⟩ := h
    rfl
  · obtain ⟨l, rfl, hl, k⟩ := h
    refine ⟨_, (pss_cons (ps_set (i := 1) sc_Lsize.nd rfl (.inl rfl) pe_int)
      (pss_cons (ps_for PassesOwn.never rfl (pi_range2 (by rfl) T.b_range (pa_cons pe_int (pa_cons (pe_op op_add (pe_callB call_len_str (by rfl) T.b_len (by decide +kernel) (pa_cons (pv 0) pa_nil)) pe_int) pa_nil))) (pg_name (i := 2) sc_Lsize.nd rfl (.inl rfl)) (pss_one (ps_if (pt_val (pe_c c_Lis_mark hr (by decide) (by rfl) (pa_cons (pe_slice sl_str (pv 0) po_none (po_some (pv 2))) pa_nil))) (pss_one (ps_set (i := 1) sc_Lsize.nd rfl (.inl rfl) (pv 2))) (pss_one (ps_if (pt_cmpR op_ne (pe_ix ix_str (pv 0) (pe_op op_sub (pv 2) pe_int) (fun _ _ => rfl)) pe_str (nomark _)) (pss_one (ps_ret (pv 1))) pss_nil)))))
      (pss_one (ps_ret (pv 1))))), ?_⟩
    have hn : (l = [] ∧ sizeOf l = 1) ∨ SizeOk l (sizeOf l) := by
      by_cases e : l = []
      · left; exact ⟨e, by unfold sizeOf; rw [if_pos e]⟩
      · right; have : sizeOf l = markLen l := by unfold sizeOf; rw [if_neg e]
        rw [this]; exact size_ok e
    generalize sizeOf l = n at hn k
    have n1 : 1 ≤ n := by rcases hn with ⟨_, e⟩ | e; omega; exact e.pos
    refine ⟨_, rfl, _, rfl, len6 hl, _, _, rfl, rfl, 2, _, rfl, ⟨by omega, by omega, by rw [S_len]; omega, by rw [S_len]; omega⟩, for_range (lo := 2) (n := (((S l).length : Int) + 1 - 2).toNat) (fun i σ H' => ∃ (v : Nat) (y : Option V), σ = [some (.str (S l)), some (.int (v : Int)), y] ∧ Same H H' ∧ (n ≤ i + 1 → v = n))
      ⟨1, none, rfl, Same.refl H, fun h => by omega⟩ ?_ ?_⟩
    · rintro i σ H2 hi ⟨v, y, rfl, sm, hv⟩
      rw [S_len] at hi
      have hi : i + 2 ≤ l.length := by omega
      rcases hn with ⟨e, _⟩ | ok
      · rw [e] at hi; simp at hi
      rw [show (2 + (i : Int)) = ((i + 2 : Nat) : Int) by omega]
      refine ⟨_, rfl, _, rfl, _, rfl, S l, rfl, len6 hl, l.take (i + 2), by rw [cut_to]; rfl, by rw [List.length_take]; omega, fun H3 s3 => ?_⟩
      refine ⟨_, rfl, ite2 (fun hm => ?_) (fun hm => ?_)⟩
      · have hs : i + 2 ≤ n := by
          by_cases z : i + 2 ≤ n
          · exact z
          · rw [ok.over (i + 2) (by omega) hi] at hm; cases hm
        exact ⟨_, rfl, i + 2, some (.int ((i + 2 : Nat) : Int)), rfl, sm.trans s3, fun h => by omega⟩
      · refine ⟨_, rfl, _, rfl, _, _, rfl, rfl, S l, ((i + 1 : Nat) : Int), l[i + 1], rfl, congrArg V.int (show ((i + 2 : Nat) : Int) - 1 = ((i + 1 : Nat) : Int) by omega), len6 hl, atI_nat (xs := l) (List.getElem?_eq_getElem (show i + 1 < l.length by omega)), rfl, _, rfl, ite2 (fun hc => ?_) (fun hc => ?_)⟩
        · have hc : l[i + 1] ≠ 47 := fun z => not_dec hc ((str_eq z47).mpr (by rw [z]))
          have hs : n ≤ i + 1 := by
            by_cases z : i + 2 ≤ n
            · rcases ok.below (i + 2) (by omega) z with e | e
              · exact absurd e hm
              · rw [show i + 2 - 1 = i + 1 by omega, List.getElem?_eq_getElem (by omega)] at e
                exact absurd (Option.some.inj e) hc
            · omega
          refine ⟨_, rfl, ?_⟩
          rw [hv hs]; exact k H3 (sm.trans s3)
        · refine ⟨v, some (.int ((i + 2 : Nat) : Int)), rfl, sm.trans s3, fun h => ?_⟩
          by_cases z : n ≤ i + 1
          · exact hv z
          · have e : n = i + 2 := by omega
            rcases ok.at_ with h1 | h1
            · omega
            · rw [e] at h1; exact absurd h1 hm
    · rintro σ H2 ⟨v, y, rfl, sm, hv⟩
      rw [S_len] at hv
      have : v = n := by
        rcases hn with ⟨e, e2⟩ | ok
        · exact hv (by omega)
        · have := ok.le; exact hv (by omega)
      refine ⟨_, rfl, ?_⟩
      rw [this]; exact k H2 sm
end
end M06

namespace M06
open PySem PySem.Spec PyProof.Rows L2 SX
open C8 (Cal pe_c pe_gc pss_cut)
section
variable {P : Program} {w : World} {K : PySem.W.Frag} {mg : Str → Option Value} {base : Heap}
abbrev s_Lcut : Stmt := topS 15
abbrev n_Lcut : List Str := ["text", "found", "lines", "line", "left", "size"]
theorem sc_Lcut : FnScope n_Lcut ["text"] (defScope s_Lcut) := ⟨rfl, rfl, rfl, by decide +kernel, rfl, by decide +kernel, by decide +kernel⟩

def spCut : Sp := fun vs H Q _ => ∃ (l : Tx), vs = [.str (S l)] ∧ l.length ≤ 100000 ∧ ∀ H' p vs', Same H H' → H p = none → H' p = some (.lst vs') → Mks H' vs' (lex 0 0 l) → Q (.ref p) H'
theorem ok_cut {f : Addr} {fd : FuncData} (F : Fun K "_law_cut" "_law_cut" s_Lcut f fd) (T : Txt6 mg) (c_Lsize : Cal P w K mg base 2 "_law_size" spSize []) : FnOk P w K mg base CX0 3 f fd ["text"] spCut := by
  refine F.ok sc_Lcut (fun vs H Q E h => ?_) (fun cdv A outer s H vs Q E hr h => ?_)
  · obtain ⟨l, rfl, _⟩ := h
    rfl
  · obtain ⟨l, rfl, hl, k⟩ := h
    refine ⟨_, (pss_cons (ps_par (i := 1) (j := 2) (by rfl) sc_Lcut.nd rfl rfl (by decide) rfl rfl (pa_cons (pe_lst pa_nil) (pa_cons (pe_split (pv 0) pe_str) pa_nil)) (by rfl))
      (pss_cons (ps_for PassesOwn.never rfl (pi_range1 (by rfl) T.b_range (pa_cons (pe_callB call_len_seq (by rfl) T.b_len (by decide +kernel) (pa_cons (pv 2) pa_nil)) pa_nil)) (pg_name (i := 3) sc_Lcut.nd rfl (.inl rfl)) (pss_cons (ps_set (i := 4) sc_Lcut.nd rfl (.inl rfl) (pe_ix ix_list (pv 2) (pv 3) (fun _ _ => rfl)))
        (pss_cut (ps_while PassesOwn.never (pt_cmpR op_ne (pv 4) pe_str (nomark _)) (pss_cons (ps_set (i := 5) sc_Lcut.nd rfl (.inl rfl) (pe_c c_Lsize hr (by decide) (by rfl) (pa_cons (pe_ix ix_list (pe_split (pv 4) pe_str) pe_int (fun _ _ => rfl)) pa_nil)))
          (pss_cut (ps_if (pt_cmpR op_ne (pe_ix ix_str (pv 4) pe_int (fun _ _ => rfl)) pe_str (nomark _)) (pss_one (ps_expr (pe_bm PySem.F.plainAttrs_list PySem.F.slot_list_append PySem.F.type_list_append mt_append (pv 1) (pa_cons (pe_tup (pa_cons (pv 3) (pa_cons (pe_op op_sub (pe_callB call_len_str (by rfl) T.b_len (by decide +kernel) (pa_cons (pe_ix ix_list (pv 2) (pv 3) (fun _ _ => rfl)) pa_nil)) (pe_callB call_len_str (by rfl) T.b_len (by decide +kernel) (pa_cons (pv 4) pa_nil))) (pa_cons (pe_slice sl_str (pv 4) po_none (po_some (pv 5))) pa_nil)))) pa_nil)))) pss_nil)
          (pss_one (ps_set (i := 4) sc_Lcut.nd rfl (.inl rfl) (pe_slice sl_str (pv 4) (po_some (pv 5)) po_none))))))
        (pss_one (ps_if (pt_cmpR op_lt (pv 3) (pe_op op_sub (pe_callB call_len_seq (by rfl) T.b_len (by decide +kernel) (pa_cons (pv 2) pa_nil)) pe_int) (nomark _)) (pss_one (ps_expr (pe_bm PySem.F.plainAttrs_list PySem.F.slot_list_append PySem.F.type_list_append mt_append (pv 1) (pa_cons (pe_tup (pa_cons (pv 3) (pa_cons (pe_callB call_len_str (by rfl) T.b_len (by decide +kernel) (pa_cons (pe_ix ix_list (pv 2) (pv 3) (fun _ _ => rfl)) pa_nil)) (pa_cons pe_str pa_nil)))) pa_nil)))) pss_nil)))))
      (pss_one (ps_ret (pv 1))))), ?_⟩
    refine ⟨Nat.zero_le _, fun o no => ⟨_, rfl, ⟨_, rfl⟩, S l, _, rfl, rfl, by decide +kernel, (by rw [S_len]; exact Nat.le_of_lt (sl7 (by omega))), fun q nq => ?_⟩⟩
    rw [split_10]
    have s1 : Same H (upd H o (.lst [])) := same_upd no
    have nqH := s1.free nq
    have s2 := same_at (o := .lst (((lines l).map S).map V.str)) s1 nqH
    have hoq : o ≠ q := ne_of_none upd_same nq
    have ho : upd (upd H o (.lst [])) q (.lst (((lines l).map S).map V.str)) o = some (.lst []) := by rw [upd_ne hoq]; exact upd_same
    have hq : upd (upd H o (.lst [])) q (.lst (((lines l).map S).map V.str)) q = some (.lst (((lines l).map S).map V.str)) := upd_same
    generalize upd (upd H o (.lst [])) q (.lst (((lines l).map S).map V.str)) = H1 at s2 ho hq
    have ll := spl_len 10 l.length l (Nat.le_refl _)
    have lfree := lines_free l.length l (Nat.le_refl _)
    have len_ls : ((((lines l).map S).map V.str).length) = (lines l).length := by rw [List.length_map, List.length_map]
    have llen : (lines l).length ≤ l.length + 1 := ll.1
    refine ⟨_, _, rfl, _, rfl, q, _, rfl, .inl (sq_lst hq), _, rfl, by rw [len_ls]; omega, by rw [len_ls]; omega, for_range (lo := 0) (n := ((((lines l).map S).map V.str).length : Int).toNat) (fun i σ H' => ∃ (vs : List V) (y3 y4 y5 : Option V), σ = [some (.str (S l)), some (.ref o), some (.ref q), y3, y4, y5] ∧ Same H H' ∧ H' o = some (.lst vs) ∧ Mks H' vs (cutUpto (lines l) i) ∧ H' q = some (.lst (((lines l).map S).map V.str)))
      ⟨[], none, none, none, rfl, s2, ho, .nil, hq⟩ ?_ ?_⟩
    · rintro i σ H2 hi ⟨vs, y3, y4, y5, rfl, sm, ho2, mk, hq2⟩
      rw [len_ls] at hi
      have hi : i < (lines l).length := by omega
      rw [Int.zero_add]
      have hx : (lines l)[i]? = some (lines l)[i] := List.getElem?_eq_getElem hi
      have hxl := ll.2 _ (List.mem_of_getElem? hx)
      have hxf := lfree _ (List.mem_of_getElem? hx)
      have eD : (lines l).getD i [] = (lines l)[i] := by simp [List.getD, hx]
      have nxt := upto_len l (Nat.succ_le_of_lt hi)
      have enx : cutUpto (lines l) (i + 1) = cutUpto (lines l) i ++ linePart (lines l).length i (lines l)[i] := by
        show cutUpto (lines l) i ++ linePart _ i ((lines l).getD i []) = _
        rw [eD]
      generalize (lines l)[i] = x at hx hxl hxf eD enx
      -- left = lines[line]
      refine ⟨_, rfl, _, rfl, q, _, (i : Int), .str (S x), rfl, rfl, sq_lst hq2, atI_nat (get_strs hx), ?_⟩
      refine ⟨fun σ' H' => ∃ (vs : List V) (y4 y5 : Option V), σ' = [some (.str (S l)), some (.ref o), some (.ref q), some (.int (i : Int)), y4, y5] ∧ Same H H' ∧ H' o = some (.lst vs) ∧ Mks H' vs (cutUpto (lines l) i ++ lex i 0 x) ∧ H' q = some (.lst (((lines l).map S).map V.str)), ?_, fun σ' H3 hM => ?_⟩
      · refine ⟨fun m σ H' => ∃ (left : Tx) (vs : List V) (ks : List Mk) (y5 : Option V), σ = [some (.str (S l)), some (.ref o), some (.ref q), some (.int (i : Int)), some (.str (S left)), y5] ∧ Same H H' ∧ H' o = some (.lst vs) ∧ Mks H' vs (cutUpto (lines l) i ++ ks) ∧ H' q = some (.lst (((lines l).map S).map V.str)) ∧ ks ++ lex i (x.length - left.length) left = lex i 0 x ∧ left.length ≤ x.length ∧ 10 ∉ left ∧ m = left.length,
          ⟨_, x, vs, [], y5, rfl, sm, ho2, (by rw [List.append_nil]; exact mk), hq2, (by rw [Nat.sub_self]; rfl), Nat.le_refl _, hxf, rfl⟩, fun m σ H3 hW => ?_⟩
        obtain ⟨left, vs3, ks, z5, rfl, sm3, ho3, mk3, hq3, el, hll, hlf, rfl⟩ := hW
        refine ⟨_, rfl, rfl, _, rfl, ite2 (fun h => ?_) (fun h => ?_)⟩
        · have hne : left ≠ [] := fun z => not_dec h ((str_eq z0).mpr z)
          obtain ⟨c, r, rfl⟩ : ∃ c r, left = c :: r := by
            cases left with
            | nil => exact absurd rfl hne
            | cons c r => exact ⟨c, r, rfl⟩
          have hn1 := markLen_pos (c :: r)
          have hn2 := markLen_le hne
          refine ⟨fun σ' H' => ∃ m', m' < (c :: r).length ∧ _, fun _ _ z => z, ?_⟩
          refine ⟨_, rfl, ⟨_, rfl⟩, S (c :: r), _, rfl, rfl, by decide +kernel, (by rw [S_len]; exact Nat.le_of_lt (sl7 (by omega))), fun t nt => ?_⟩
          rw [split_32]
          have ntH := sm3.free nt
          have hot : o ≠ t := ne_of_none ho3 nt
          have hqt : q ≠ t := ne_of_none hq3 nt
          have hr0 := room_len (c :: r)
          refine ⟨t, _, 0, .str (S (room (c :: r))), rfl, rfl, sq_lst upd_same, atI_nat (j := 0) (get_strs (room_spl _)), room (c :: r), rfl, by omega, fun H4 s4 => ?_⟩
          rw [size_room hne]
          have sm4 : Same H H4 := (same_at sm3 ntH).trans s4
          have ho4 : H4 o = some (.lst vs3) := s4 _ _ (by rw [upd_ne hot]; exact ho3)
          have hq4 : H4 q = _ := s4 _ _ (by rw [upd_ne hqt]; exact hq3)
          have mk4 : Mks H4 vs3 (cutUpto (lines l) i ++ ks) := mk3.mono fun a xs e => s4 _ _ (by rw [upd_ne (ne_of_none e nt)]; exact e)
          generalize hn : markLen (c :: r) = n at hn1 hn2
          refine ⟨fun σ' H5 => ∃ vs5, σ' = [some (.str (S l)), some (.ref o), some (.ref q), some (.int (i : Int)), some (.str (S (c :: r))), some (.int (n : Int))] ∧ Same H H5 ∧ H5 o = some (.lst vs5) ∧ H5 q = some (.lst (((lines l).map S).map V.str)) ∧ Mks H5 vs5 (cutUpto (lines l) i ++ (ks ++ (if c = 32 then [] else [(i, x.length - (c :: r).length, (c :: r).take n)]))), ?_, fun σ' H5 hM => ?_⟩
          · refine ⟨_, rfl, S (c :: r), 0, c, rfl, rfl, len6 (by omega), atI_nat (j := 0) (xs := c :: r) rfl, rfl, _, rfl, ite2 (fun h => ?_) (fun h => ?_)⟩
            · have h : c ≠ 32 := fun z => not_dec h ((str_eq (x := [c]) z32).mpr (by rw [z]))
              have hkl : vs3.length ≤ l.length := by
                have e1 := mk4.len
                have e2 : (ks ++ lex i (x.length - (c :: r).length) (c :: r)).length = (lex i 0 x).length := by rw [el]
                rw [enx, linePart, List.length_append, List.length_append] at nxt
                rw [List.length_append] at e1 e2
                omega
              refine ⟨_, rfl, .inl ⟨rfl, _, sq_lst ho4⟩, _, rfl, _, rfl, _, rfl, q, _, (i : Int), .str (S x), rfl, rfl, sq_lst hq4, atI_nat (get_strs hx), _, rfl, len6 (by omega), _, rfl, _, rfl, len6 (by omega), _, _, rfl, rfl, _, rfl, _, rfl, _, rfl, S (c :: r), rfl, len6 (by omega), (by show 3 ≤ sizeLine; decide), fun p np => ?_⟩
              have ho5 : ∀ u, upd H4 p u o = some (.lst vs3) := fun u => by
                rw [upd_ne (ne_of_none ho4 np)]; exact ho4
              have hqo : q ≠ o := hoq.symm
              refine ⟨o, vs3, _, rfl, rfl, ho5 _, sl7 (by omega), _, rfl, fun b z e => ?_, upd_same, ?_, ?_⟩
              · rw [upd_ne (ne_of_none e no), upd_ne (ne_of_none (sm4 _ _ e) np)]; exact sm4 _ _ e
              · rw [upd_ne hqo, upd_ne (ne_of_none hq4 np)]; exact hq4
              · rw [if_neg h, ← List.append_assoc]
                refine Mks.snoc ((mk4.mono fun a xs e => ?_).mono (keep_tup (ho5 _))) ⟨p, rfl, keep_tup (ho5 _) _ _ ?_⟩
                · rw [upd_ne (ne_of_none e np)]; exact e
                · rw [upd_same, cut_to, S_len, S_len]
                  show some (HO.tup [V.int (i : Int), V.int ((x.length : Int) - ((c :: r).length : Int)), V.str (S ((c :: r).take n))]) = _
                  rw [show (x.length : Int) - ((c :: r).length : Int) = ((x.length - (c :: r).length : Nat) : Int) by omega]
            · have h : c = 32 := (List.cons.inj ((str_eq (x := [c]) z32).mp (of_not_dec h))).1
              refine ⟨vs3, rfl, sm4, ho4, hq4, ?_⟩
              rw [if_pos h, List.append_nil]; exact mk4
          · obtain ⟨vs5, rfl, sm5, ho5, hq5, mk5⟩ := hM
            refine ⟨_, rfl, _, rfl, _, rfl, S (c :: r), rfl, len6 (by omega), ?_⟩
            rw [cut_from]
            have hc10 : c ≠ 10 := fun z => hlf (by rw [z]; exact List.mem_cons_self ..)
            refine ⟨((c :: r).drop n).length, by rw [List.length_drop]; omega, (c :: r).drop n, vs5, _, _, rfl, sm5, ho5, mk5, hq5, ?_, by rw [List.length_drop]; omega, fun z => hlf (List.mem_of_mem_drop z), rfl⟩
            rw [← el, List.append_assoc]
            refine congrArg (ks ++ ·) ?_
            by_cases h32 : c = 32
            · have en : n = 1 := by rw [← hn, h32, mk32]
              subst en
              rw [if_pos h32, h32, lex_sp]
              show [] ++ lex i (x.length - r.length) r = _
              rw [List.nil_append]
              have : x.length - (32 :: r).length + 1 = x.length - r.length := by simp only [List.length_cons] at hll ⊢; omega
              rw [this]
            · rw [if_neg h32, lex_mk _ _ h32 hc10, hn, List.length_drop]
              have : x.length - ((c :: r).length - n) = x.length - (c :: r).length + n := by omega
              rw [this]; rfl
        · have h : left = [] := (str_eq z0).mp (of_not_dec h)
          subst h
          rw [lex_nil, List.append_nil] at el
          exact ⟨vs3, _, _, rfl, sm3, ho3, by rw [← el]; exact mk3, hq3⟩
      · obtain ⟨vs3, z4, z5, rfl, sm3, ho3, mk3, hq3⟩ := hM
        have hkl : vs3.length ≤ l.length := by
          have e1 := mk3.len
          rw [enx, linePart, List.length_append, List.length_append] at nxt
          rw [List.length_append] at e1
          omega
        refine ⟨_, rfl, _, rfl, q, _, rfl, .inl (sq_lst hq3), _, _, rfl, rfl, _, _, rfl, rfl, _, rfl, ?_⟩
        rw [len_ls]
        refine ite2 (fun h => ?_) (fun h => ?_)
        · have h : i + 1 < (lines l).length := by have := of_decide_eq_true h; omega
          refine ⟨_, rfl, .inl ⟨rfl, _, sq_lst ho3⟩, _, rfl, _, rfl, _, rfl, q, _, (i : Int), .str (S x), rfl, rfl, sq_lst hq3, atI_nat (get_strs hx), _, rfl, len6 (by omega), (by show 3 ≤ sizeLine; decide), fun p np => ?_⟩
          rw [S_len, z10]
          have ho5 : upd H3 p (.tup [.int (i : Int), .int (x.length : Int), .str (S [10])]) o = some (.lst vs3) := by
            rw [upd_ne (ne_of_none ho3 np)]; exact ho3
          refine ⟨o, vs3, _, rfl, rfl, ho5, sl7 (by omega), _, _, _, _, rfl, fun b z e => ?_, upd_same, ?_, ?_⟩
          · rw [upd_ne (ne_of_none e no), upd_ne (ne_of_none (sm3 _ _ e) np)]; exact sm3 _ _ e
          · rw [enx, linePart, if_pos h, ← List.append_assoc]
            refine Mks.snoc ((mk3.mono fun a xs e => ?_).mono (keep_tup ho5)) ⟨p, rfl, keep_tup ho5 _ _ upd_same⟩
            rw [upd_ne (ne_of_none e np)]; exact e
          · rw [upd_ne hoq.symm, upd_ne (ne_of_none hq3 np)]; exact hq3
        · have h : ¬ i + 1 < (lines l).length := fun z => h (decide_eq_true (by omega))
          refine ⟨vs3, _, _, _, rfl, sm3, ho3, ?_, hq3⟩
          rw [enx, linePart, if_neg h, List.append_nil]; exact mk3
    · rintro σ H2 ⟨vs, y3, y4, y5, rfl, sm, ho2, mk, hq2⟩
      rw [len_ls] at mk
      have e : ((lines l).length : Int).toNat = (lines l).length := Int.toNat_natCast _
      rw [e, cut_is_lex] at mk
      exact ⟨_, rfl, k H2 o vs sm no ho2 mk⟩
end
end M06

namespace M06
open PySem PySem.Spec PyProof.Rows L2 SX
open C8 (Cal pe_c pe_gc pss_cut)

theorem Mks.get {H : Hp} : ∀ {vs : List V} {ks : List Mk} {i : Nat} {x : V}, Mks H vs ks → vs[i]? = some x → ∃ k, ks[i]? = some k ∧ MkAt H x k
  | _, _, i, x, .nil, e => by simp at e
  | _, _, 0, x, .cons r _, e => by simp at e; subst e; exact ⟨_, rfl, r⟩
  | _, _, i + 1, x, .cons _ t, e => by
    obtain ⟨k, h1, h2⟩ := Mks.get t (by simpa using e)
    exact ⟨k, by simpa using h1, h2⟩
theorem any_false : ∀ n : Nat, (List.replicate n false).any id = false
  | 0 => rfl
  | n + 1 => by rw [List.replicate_succ, List.any_cons, any_false n]; rfl
section
variable {P : Program} {w : World} {K : PySem.W.Frag} {mg : Str → Option Value} {base : Heap}
abbrev s_Lkinds : Stmt := topS 16
abbrev n_Lkinds : List Str := ["told", "item", "part"]
theorem sc_Lkinds : FnScope n_Lkinds ["told"] (defScope s_Lkinds) := ⟨rfl, rfl, rfl, by decide +kernel, rfl, by decide +kernel, by decide +kernel⟩

def spKinds : Sp := fun vs H Q _ => ∃ (p : Addr) (ms : List V) (ks : List Mk), vs = [.ref p] ∧ H p = some (.tup ms) ∧ Mks H ms ks ∧ ∀ H', Same H H' → Q (.bl true) H'
theorem ok_kinds {f : Addr} {fd : FuncData} (F : Fun K "_law_kinds" "_law_kinds" s_Lkinds f fd) (T : Txt6 mg) : FnOk P w K mg base CX0 1 f fd ["told"] spKinds := by
  refine F.ok sc_Lkinds (fun vs H Q E h => ?_) (fun cdv A outer s H vs Q E hr h => ?_)
  · obtain ⟨p, ms, ks, rfl, _⟩ := h
    rfl
  · obtain ⟨p, ms, ks, rfl, hp, mk, k⟩ := h
    refine ⟨_, (pss_cons (ps_if (pt_not (pt_val (pe_callB call_isi (by rfl) T.b_isinstance (by decide +kernel) (pa_cons (pv 0) (pa_cons (pe_bltn (v := .ty "tuple") (by rfl) T.b_tuple boot_tuple rfl) pa_nil))))) (pss_one (ps_ret pe_bl)) pss_nil)
      (pss_cons (ps_for PassesOwn.never rfl (pi_tup (pv 0)) (pg_name (i := 1) sc_Lkinds.nd rfl (.inl rfl)) (pss_cons (ps_if (PW.pt (pw_or (pt_not (pt_val (pe_callB call_isi (by rfl) T.b_isinstance (by decide +kernel) (pa_cons (pv 1) (pa_cons (pe_bltn (v := .ty "tuple") (by rfl) T.b_tuple boot_tuple rfl) pa_nil))))) (pw_or (pt_cmpR op_ne (pe_callB call_len_seq (by rfl) T.b_len (by decide +kernel) (pa_cons (pv 1) pa_nil)) pe_int (nomark _)) (pw_or1 (pt_not (pt_val (pe_callB call_isi (by rfl) T.b_isinstance (by decide +kernel) (pa_cons (pe_ix ix_tup (pv 1) pe_int (fun _ _ => rfl)) (pa_cons (pe_bltn (v := .ty "str") (by rfl) T.b_str boot_str rfl) pa_nil))))))))) (pss_one (ps_ret pe_bl)) pss_nil)
        (pss_one (ps_if (pt_val (pe_callB (cr_any rfl) (by rfl) T.b_any (by decide +kernel) (pa_cons (pe_lc (own := [("part", 2)]) rfl sc_Lkinds.nd (pi_tup (pe_slice sl_tupA (pv 1) po_none (po_some pe_int))) (blkOk_by (N := n_Lkinds) (sc := defScope s_Lkinds) (by decide +kernel)) (fun _ _ _ _ _ => (pg_name (i := 2) sc_Lkinds.nd rfl (.inl rfl))) (fun _ _ _ _ _ => pts_nil) (fun _ _ _ _ _ => (pe_or (pe_callB (id := "isinstance") (r := rIsi K) call_isi (by rfl) T.b_isinstance (by decide +kernel) (pa_cons (pv 2) (pa_cons (pe_bltn (v := .ty "bool") (by rfl) T.b_bool boot_bool rfl) pa_nil))) (pe_one (pe_not (pe_callB (id := "isinstance") (r := rIsi K) call_isi (by rfl) T.b_isinstance (by decide +kernel) (pa_cons (pv 2) (pa_cons (pe_bltn (v := .ty "int") (by rfl) T.b_int boot_int rfl) pa_nil)))))))) pa_nil))) (pss_one (ps_ret pe_bl)) pss_nil))))
      (pss_one (ps_ret pe_bl)))), ?_⟩
    refine ⟨_, rfl, _, _, _, _, _, rfl, .ty "tuple", .base (.tup hp), kit_ty (r := true) (by decide +kernel), _, rfl, ?_⟩
    refine iteF ?_
    refine ⟨_, rfl, p, rfl, ⟨_, sq_tup hp⟩, for_tup (K := K) (a := p) (xs := ms) (fun i σ H' => ∃ y1 y2, σ = [some (.ref p), y1, y2] ∧ Same H H')
      ⟨none, none, rfl, Same.refl H⟩ (fun i σ H' _ ⟨_, _, _, sm⟩ => sq_tup (sm _ _ hp)) ?_ ?_⟩
    · rintro i x σ H2 hi ⟨y1, y2, rfl, sm⟩
      obtain ⟨m, hm, a, rfl, ha⟩ := Mks.get mk hi
      have ha2 := sm _ _ ha
      refine ⟨_, rfl, _, _, _, _, _, rfl, .ty "tuple", .base (.tup ha2), kit_ty (r := true) (by decide +kernel), _, rfl, iteF ?_⟩
      refine ⟨_, rfl, a, _, rfl, .inr (sq_tup ha2), rfl, _, rfl, iteNS rfl ?_⟩
      refine ⟨_, rfl, a, _, 2, _, rfl, rfl, sq_tup ha2, atI_nat (j := 2) rfl, _, _, _, _, _, rfl, .ty "str", .base (.str _), kit_ty (r := true) (by decide +kernel), _, rfl, iteF ?_⟩
      refine ⟨_, rfl, _, rfl, a, _, rfl, sq_tup ha2, fun z => absurd z.2 (show ¬ HT.sIx 3 3 (some 2) = 3 by decide), fun _ q nq => ?_⟩
      have e2 : cutV [V.int (m.1 : Int), .int (m.2.1 : Int), .str (S m.2.2)] none (some 2) = [.int (m.1 : Int), .int (m.2.1 : Int)] := rfl
      have hq : upd H2 q (.tup (cutV [V.int (m.1 : Int), .int (m.2.1 : Int), .str (S m.2.2)] none (some 2))) q = some (.tup [.int (m.1 : Int), .int (m.2.1 : Int)]) := by rw [upd_same, e2]
      have sm2 := same_at (o := .tup (cutV [V.int (m.1 : Int), .int (m.2.1 : Int), .str (S m.2.2)] none (some 2))) sm (sm.free nq)
      generalize upd H2 q (.tup (cutV [V.int (m.1 : Int), .int (m.2.1 : Int), .str (S m.2.2)] none (some 2))) = H3 at hq sm2
      refine ⟨q, rfl, ⟨_, sq_tup hq⟩, fun D nD => ?_⟩
      have nDH := sm2.free nD
      have hqD : q ≠ D := ne_of_none hq nD
      refine lc_tup (K := K) (a := q) (xs := [.int (m.1 : Int), .int (m.2.1 : Int)]) (fun j H' => H' D = some (.lst ((List.replicate j false).map V.bl)) ∧ H' q = some (.tup [.int (m.1 : Int), .int (m.2.1 : Int)]) ∧ Same H H')
        ⟨upd_same, by rw [upd_ne hqD]; exact hq, same_at sm2 nDH⟩ (fun j H' _ e => sq_tup e.2.1) ?_ ?_
      · rintro j x H4 hj ⟨hD, hq4, sm4⟩
        obtain ⟨z, rfl⟩ : ∃ z, x = .int z := by
          cases j with
          | zero => exact ⟨_, (Option.some.inj hj).symm⟩
          | succ j => cases j with
            | zero => exact ⟨_, (Option.some.inj hj).symm⟩
            | succ j => cases hj
        have hj2 : j < 2 := (List.getElem?_eq_some_iff.mp hj).1
        refine ⟨rfl, _, rfl, _, _, _, _, _, rfl, .ty "bool", .base (.int z), kit_ty (r := false) (by decide +kernel), _, rfl, iteF ?_⟩
        refine ⟨_, rfl, _, _, _, _, _, rfl, .ty "int", .base (.int z), kit_ty (r := true) (by decide +kernel), _, rfl, _, hD, (by rw [List.length_map, List.length_replicate]; exact small1000 (by omega)), ?_, by rw [upd_ne hqD]; exact hq4, same_at sm4 nDH⟩
        rw [upd_same, List.replicate_succ', List.map_append]; rfl
      · rintro H4 ⟨hD, hq4, sm4⟩
        refine ⟨D, _, rfl, sq_lst hD, _, rfl, ?_⟩
        rw [any_false]
        exact iteF ⟨_, _, rfl, sm4⟩
    · rintro σ H2 ⟨y1, y2, rfl, sm⟩
      exact k H2 sm
end
end M06

namespace M06
open PySem PySem.Spec PyProof.Rows L2 SX
open C8 (Cal pe_c pe_gc pss_cut)

theorem count_list (c : Nat) : ∀ l : Tx, PyProof.Rows.cnt c l = ((l.count c : Nat) : Int)
  | [] => rfl
  | n :: r => by
    rw [PyProof.Rows.cnt_cons, count_list c r]
    by_cases h : n = c
    · subst h; rw [if_pos rfl, List.count_cons_self]; omega
    · rw [if_neg h, List.count_cons_of_ne h]; omega
theorem count_S (l : Tx) (c : Nat) : Txt.count (S l) (S [c]) = ((l.count c : Nat) : Int) := (PyProof.Rows.count_cnt (S l) c).trans (count_list c l)
theorem rfind_S (l : Tx) : (l.length : Int) - Txt.rfind (S l) (S [10]) = ((endCol 0 l + 1 : Nat) : Int) := by
  unfold Txt.rfind
  rcases StrLaws.last_spec (S l) (S [10]) with ⟨h1, h2⟩ | ⟨i, h1, h2, h3⟩
  · rw [h1]
    have hf : 10 ∉ l := fun hm => by
      obtain ⟨i, hi⟩ := List.getElem?_of_mem hm
      exact h2 i ((StrLaws.subAt_one (S l) 10 i).mpr hi)
    rw [endCol_free l 0 hf]
    show (l.length : Int) - (-1) = _
    omega
  · rw [h1]
    have hi : l[i]? = some 10 := (StrLaws.subAt_one (S l) 10 i).mp h2
    have hlt : i < l.length := (List.getElem?_eq_some_iff.mp hi).1
    have hv : l[i] = 10 := (List.getElem?_eq_some_iff.mp hi).2
    have hf : 10 ∉ l.drop (i + 1) := fun hm => by
      obtain ⟨j, hj⟩ := List.getElem?_of_mem hm
      rw [List.getElem?_drop] at hj
      exact h3 (i + 1 + j) (by omega) ((StrLaws.subAt_one (S l) 10 (i + 1 + j)).mpr hj)
    have e : endCol 0 l = l.length - (i + 1) := by
      conv => lhs; rw [← List.take_append_drop i l, List.drop_eq_getElem_cons hlt, hv]
      rw [endCol_app, endCol, if_pos rfl, endCol_free _ 0 hf, List.length_drop]; omega
    rw [e]
    show (l.length : Int) - (i : Int) = _
    omega
theorem mem_le_sum : ∀ {l : List Nat} {x : Nat}, x ∈ l → x ≤ l.sum
  | y :: r, x, h => by
    rw [List.sum_cons]
    rcases List.mem_cons.mp h with e | e
    · omega
    · have := mem_le_sum e; omega
theorem sum_len (ks : List Mk) : (ks.map fun k => ((k.2.2.length : Nat) : Int)).sum = (((ks.map fun k => k.2.2.length).sum : Nat) : Int) := by
  induction ks with
  | nil => rfl
  | cons k r ih => rw [List.map_cons, List.map_cons, List.sum_cons, List.sum_cons, ih]; omega
section
variable {P : Program} {w : World} {K : PySem.W.Frag} {mg : Str → Option Value} {base : Heap}
abbrev s_Lstands : Stmt := topS 17
abbrev n_Lstands : List Str := ["text", "told", "line", "lines", "at", "mark", "item"]
theorem sc_Lstands : FnScope n_Lstands ["text", "told"] (defScope s_Lstands) := ⟨rfl, rfl, rfl, by decide +kernel, rfl, by decide +kernel, by decide +kernel⟩

def spStands : Sp := fun vs H Q _ => ∃ (l : Tx) (p : Addr) (ms : List V), vs = [.str (S l), .ref p] ∧ l.length ≤ 100000 ∧ H p = some (.tup ms) ∧ Mks H ms (lex 0 0 l) ∧ ∀ H', Same H H' → Q (.bl true) H'
theorem ok_stands {f : Addr} {fd : FuncData} (F : Fun K "_law_stands" "_law_stands" s_Lstands f fd) (T : Txt6 mg) : FnOk P w K mg base CX0 1 f fd ["text", "told"] spStands := by
  refine F.ok sc_Lstands (fun vs H Q E h => ?_) (fun cdv A outer s H vs Q E hr h => ?_)
  · obtain ⟨l, p, ms, rfl, _⟩ := h
    rfl
  · obtain ⟨l, p, ms, rfl, hl, hp, mk, k⟩ := h
    refine ⟨_, (pss_cons (ps_setLc (i := 3) (own := [("line", 2)]) rfl sc_Lstands.nd rfl rfl (sw_true rfl rfl rfl (by decide +kernel)) (pi_list (pe_split (pv 0) pe_str)) (blkOk_by (N := n_Lstands) (sc := defScope s_Lstands) (by decide +kernel)) (fun _ _ _ _ _ => (pg_name (i := 2) sc_Lstands.nd rfl (.inl rfl))) (fun _ _ _ _ _ => pts_nil) (fun _ _ _ _ _ => (pe_op op_add_str (pv 2) pe_str)))
      (pss_cons (ps_for PassesOwn.never rfl (pi_tup (pv 1)) (pg_tup rfl (pgs_cons (pg_name (i := 2) sc_Lstands.nd rfl (.inl rfl)) (pgs_cons (pg_name (i := 4) sc_Lstands.nd rfl (.inl rfl)) (pgs_cons (pg_name (i := 5) sc_Lstands.nd rfl (.inl rfl)) pgs_nil)))) (pss_one (ps_if (PW.pt (pw_or (pt_not (pt_chain op_le op_lt pe_int (pv 2) (pe_callB call_len_seq (by rfl) T.b_len (by decide +kernel) (pa_cons (pv 3) pa_nil)))) (pw_or (pt_cmpR op_lt (pv 4) pe_int (nomark _)) (pw_or1 (pt_cmpR op_ne (pe_slice sl_str (pe_ix ix_list (pv 3) (pv 2) (fun _ _ => rfl)) (po_some (pv 4)) (po_some (pe_op op_add (pv 4) (pe_callB call_len_str (by rfl) T.b_len (by decide +kernel) (pa_cons (pv 5) pa_nil))))) (pv 5) (nomark _)))))) (pss_one (ps_ret pe_bl)) pss_nil)))
      (pss_one (ps_ret (pe_cmpR op_eq (pe_op op_add (pe_callB (cr_sum rfl) (by rfl) T.b_sum (by decide +kernel) (pa_cons (pe_lc (own := [("item", 6)]) rfl sc_Lstands.nd (pi_tup (pv 1)) (blkOk_by (N := n_Lstands) (sc := defScope s_Lstands) (by decide +kernel)) (fun _ _ _ _ _ => (pg_name (i := 6) sc_Lstands.nd rfl (.inl rfl))) (fun _ _ _ _ _ => pts_nil) (fun _ _ _ _ _ => (pe_callB call_len_str (by rfl) T.b_len (by decide +kernel) (pa_cons (pe_ix (r := rIxT K) ix_tup (pv 6) pe_int (fun _ _ => rfl)) pa_nil)))) pa_nil)) (pe_m1 PySem.F.slot_str_count PySem.F.type_str_count mt_count (pv 0) pe_str)) (pe_callB call_len_str (by rfl) T.b_len (by decide +kernel) (pa_cons (pv 0) pa_nil)) (nomark _)))))), ?_⟩
    have ll := spl_len 10 l.length l (Nat.le_refl _)
    have llen : (lines l).length ≤ l.length + 1 := ll.1
    -- lines = [line + newline ..]
    refine ⟨_, rfl, ⟨_, rfl⟩, S l, _, rfl, rfl, by decide +kernel, (by rw [S_len]; exact Nat.le_of_lt (sl7 (by omega))), fun q nq => ?_⟩
    rw [split_10]
    have s1 : Same H (upd H q (.lst (((lines l).map S).map V.str))) := same_upd nq
    refine ⟨q, rfl, ⟨_, sq_lst upd_same⟩, fun D nD => ?_⟩
    have nDH := s1.free nD
    have hqD : q ≠ D := ne_of_none upd_same nD
    have len_ls : ((((lines l).map S).map V.str).length) = (lines l).length := by rw [List.length_map, List.length_map]
    refine lc_list (K := K) (a := q) (xs := ((lines l).map S).map V.str) (fun i H' => H' D = some (.lst ((((lines l).take i).map fun x => S (x ++ [10])).map V.str)) ∧ H' q = some (.lst (((lines l).map S).map V.str)) ∧ Same H H')
      ⟨upd_same, by rw [upd_ne hqD]; exact upd_same, same_at s1 nDH⟩ (fun i H' _ e => sq_lst e.2.1) ?_ ?_
    · rintro i x H2 hi ⟨hD, hq, sm⟩
      obtain ⟨line, hx, rfl⟩ : ∃ part, (lines l)[i]? = some part ∧ x = .str (S part) := by
        rw [List.getElem?_map, List.getElem?_map] at hi
        cases e : (lines l)[i]? with
        | none => rw [e] at hi; cases hi
        | some z => rw [e] at hi; exact ⟨z, rfl, (Option.some.inj hi).symm⟩
      have hxl := ll.2 line (List.mem_of_getElem? hx)
      have hil : i < (lines l).length := (List.getElem?_eq_some_iff.mp hx).1
      refine ⟨rfl, _, rfl, S line, _, rfl, rfl, ?_, _, hD, (by rw [List.length_map, List.length_map, List.length_take]; exact Nat.lt_of_le_of_lt (Nat.min_le_left _ _) (sl7 (by omega))), ?_, by rw [upd_ne hqD]; exact hq, same_at sm nDH⟩
      · rw [z10, S_len, S_len]; exact Nat.le_of_lt (sl7 (by simp; omega))
      · rw [upd_same, z10, S_cat, List.map_map, List.map_map, get_take _ hx]; rfl
    · rintro H2 ⟨hD, hq, sm⟩
      rw [len_ls, List.take_length] at hD
      refine ⟨_, rfl, p, rfl, ⟨_, sq_tup (sm _ _ hp)⟩, for_tup (K := K) (a := p) (xs := ms) (fun i σ H' => ∃ y2 y4 y5 y6, σ = [some (.str (S l)), some (.ref p), y2, some (.ref D), y4, y5, y6] ∧ H' = H2)
        ⟨none, none, none, none, rfl, rfl⟩ (fun i σ H' _ ⟨_, _, _, _, _, e⟩ => by rw [e]; exact sq_tup (sm _ _ hp)) ?_ ?_⟩
      · rintro i x σ H' hi ⟨y2, y4, y5, y6, rfl, rfl⟩
        obtain ⟨m, hm, a, rfl, ha⟩ := Mks.get mk hi
        obtain ⟨line, hx, hln, hst⟩ := stands l m (List.mem_of_getElem? hm)
        have ha2 := sm _ _ ha
        have hil : m.1 < (lines l).length := (List.getElem?_eq_some_iff.mp hx).1
        have hxl := ll.2 line (List.mem_of_getElem? hx)
        have len_D : (((lines l).map fun x => S (x ++ [10])).map V.str).length = (lines l).length := by rw [List.length_map, List.length_map]
        refine ⟨a, _, rfl, sq_tup ha2, rfl, _, _, rfl, _, _, rfl, _, _, rfl, rfl, ?_⟩
        refine ⟨_, rfl, _, _, rfl, rfl, true, (congrArg V.bl (decide_eq_true (by omega))), iteT ⟨_, rfl, D, _, rfl, .inl (sq_lst hD), _, _, rfl, rfl, true, (congrArg V.bl (decide_eq_true (by rw [len_D]; omega))), iteF ?_⟩⟩
        refine ⟨_, rfl, _, _, rfl, rfl, false, (congrArg V.bl (decide_eq_false (by omega))), iteF ?_⟩
        refine ⟨_, rfl, _, rfl, D, _, (m.1 : Int), .str (S (line ++ [10])), rfl, rfl, sq_lst hD, atI_nat ?_, _, rfl, _, rfl, _, rfl, _, rfl, _, rfl, (by rw [S_len]; exact Nat.le_of_lt (sl7 (by omega))), _, _, rfl, rfl, _, rfl, S (line ++ [10]), rfl, ?_, _, rfl, rfl, _, rfl, ?_⟩
        · rw [List.getElem?_map, List.getElem?_map, hx]; rfl
        · rw [S_len]; exact Nat.le_of_lt (sl7 (by simp; omega))
        · rw [S_len]
          show if (!decide (V.str (cutS (S (line ++ [10])) (some (m.2.1 : Int)) (some ((m.2.1 : Int) + (m.2.2.length : Int)))) = V.str (S m.2.2))) = true then _ else _
          rw [show (m.2.1 : Int) + (m.2.2.length : Int) = ((m.2.1 + m.2.2.length : Nat) : Int) by omega, cut_mid, Nat.add_sub_cancel_left, hst]
          exact iteNS rfl ⟨_, _, _, _, rfl, rfl⟩
      · rintro σ H' ⟨y2, y4, y5, y6, rfl, rfl⟩
        refine ⟨_, rfl, p, rfl, ⟨_, sq_tup (sm _ _ hp)⟩, fun D2 nD2 => ?_⟩
        have nD2H := sm.free nD2
        have mlen := mk.len
        refine lc_tup (K := K) (a := p) (xs := ms) (fun i H' => H' D2 = some (.lst ((((lex 0 0 l).take i).map fun k => ((k.2.2.length : Nat) : Int)).map V.int)) ∧ Same H H')
          ⟨upd_same, same_at sm nD2H⟩ (fun i H' _ e => sq_tup (e.2 _ _ hp)) ?_ ?_
        · rintro i x H3 hi ⟨hD2, sm3⟩
          obtain ⟨m, hm, a, rfl, ha⟩ := Mks.get mk hi
          have ha3 := sm3 _ _ ha
          have hml : m.2.2.length ≤ l.length := by
            obtain ⟨line, hx, hln, hst⟩ := stands l m (List.mem_of_getElem? hm)
            have h5 := lex_sum l 0 0
            have h6 : m.2.2.length ∈ (lex 0 0 l).map fun k => k.2.2.length := List.mem_map.mpr ⟨m, List.mem_of_getElem? hm, rfl⟩
            have h7 := mem_le_sum h6
            omega
          have hil : i < (lex 0 0 l).length := (List.getElem?_eq_some_iff.mp hm).1
          have hlx := lex_len l 0 0
          refine ⟨rfl, _, rfl, a, _, 2, _, rfl, rfl, sq_tup ha3, atI_nat (j := 2) rfl, _, rfl, len6 (by omega), _, hD2, (by rw [List.length_map, List.length_map, List.length_take]; exact Nat.lt_of_le_of_lt (Nat.min_le_left _ _) (sl7 (by omega))), ?_, same_at sm3 nD2H⟩
          rw [upd_same, S_len, List.map_map, List.map_map, get_take _ hm]; rfl
        · rintro H3 ⟨hD2, sm3⟩
          rw [mlen, List.take_length] at hD2
          refine ⟨D2, _, rfl, sq_lst hD2, _, rfl, ⟨_, rfl⟩, S l, _, rfl, rfl, _, _, rfl, rfl, _, rfl, _, rfl, len6 hl, rfl, ?_⟩
          rw [z32, count_S, sum_len, S_len]
          have e := lex_sum l 0 0
          have e2 : ((((lex 0 0 l).map fun k => k.2.2.length).sum : Nat) : Int) + ((l.count 32 : Nat) : Int) = (l.length : Int) := by omega
          show Q (V.bl (decide (V.int (((((lex 0 0 l).map fun k => k.2.2.length).sum : Nat) : Int) + ((l.count 32 : Nat) : Int)) = V.int (l.length : Int)))) H3
          rw [e2, decide_eq_true rfl]
          exact k H3 sm3
end
end M06

namespace M06
open PySem PySem.Spec PyProof.Rows L2 SX
open C8 (Cal pe_c pe_gc pss_cut)

/-! ### a call with keywords alone -/
structure CalK (P : Program) (w : World) (K : PySem.W.Frag) (mg : Str → Option Value) (base : Heap) (k : Nat) (x : Str) (ks : List Str) (gV : List V → List V) (sp : Sp) : Prop where
  ex : ∃ (f : Addr) (fd : FuncData) (ps : List Str) (gu : List Value → List Value), FnOk P w K mg base CX0 k f fd ps sp ∧ mg x = some (.ref f) ∧ PySem.W.keepIn K (.ref f) = true ∧
    (∀ (s : Shared) (ws : List Value), (gu ws).length = ps.length → BindsTo s fd ⟨[], ks.zip ws⟩ (ps.zip (gu ws))) ∧ ∀ (zs : List V) (ws : List Value), Vals zs ws → Vals (gV zs) (gu ws)
def tKw (sp : Sp) (gV : List V → List V) (tk : TA) : TE := fun σ H Q => tk σ H fun zs H1 => sp (gV zs) H1 Q E0
theorem pe_kw {X : Cx} {k j : Nat} {x : Str} {ks : List Str} {gV : List V → List V} {sp : Sp} {p pos : Pos} {kws : List Keyword} {tk : TA} (c : CalK X.prog X.w X.K X.mg X.base k x ks gV sp) (hr : Room j X.A) (hk : k ≤ j) (hg : Gl X x) (hkw : PK X kws tk)
    (hall : (backToKw pos (keywordEach kws X.env)).all (·.1.isSome) = true := by rfl) (hks : (backToKw pos (keywordEach kws X.env)).filterMap (·.1) = ks := by rfl) (hdb : (x == ("__debug__" : Str)) = false := by decide)
    (hpl : ((backTo pos (starEach [] X.env)).any (·.1) || (backToKw pos (keywordEach kws X.env)).any (·.1.isNone)) = false := by rfl) : PE X (.Call (.Name x p) [] kws pos) (tKw sp gV tk) := by
  obtain ⟨f, fd, ps, gu, F, hm, kp, bt, rel⟩ := c.ex
  refine ⟨fun pins s1 σ H Q I hh => wpAny_Call_Name_kw (ld_glob I hg hm ?_ hdb)⟩
  refine PySem.W.callWith_KW0 (h₀ := X.base) I.ok.mod.kin kp hall (thn (hkw.run pos pins s1 σ H _ I hh) fun ws s2 hz => ?_) hpl
  obtain ⟨zs, H2, I2, rz, q2⟩ := hz
  refine ⟨I2.kIn, ?_⟩
  rw [hks]
  have r2 := rel zs ws rz
  have hl : (gu ws).length = ps.length := r2.length.symm.trans (F.len _ _ _ _ q2)
  refine wpAny_call (codeAny_mono ((F.mono hk).run X.A X.stack s2 H2 ⟨[], ks.zip ws⟩ (gu ws) (gV zs) Q E0 hr I2.env0 (bt s2 ws hl) r2 q2) fun r s3 hq => ?_)
  cases r with
  | error e => exact pass0 pins σ H2 s2 e s3 I2 hq
  | ok fl =>
    cases fl with
    | ret u => exact I2.after hq
    | next => exact hq.elim
    | brk => exact hq.elim
    | cont => exact hq.elim
/-! ### marks as data -/
def dMk (k : Mk) : PyData := .tuple [.int (k.1 : Int), .int (k.2.1 : Int), .str (S k.2.2)]
def Sm (ks : List Mk) : Prop := ∀ k ∈ ks, Cp k.2.2
theorem str_ok {t : Tx} (h : Cp t) : PyData.strOk (S t) = true := by
  unfold PyData.strOk
  rw [← Array.all_toList]; exact h
theorem lex_mem : ∀ (l : Tx) (ln col : Nat), ∀ k ∈ lex ln col l, ∀ c ∈ k.2.2, c ∈ l := by
  intro l
  refine by_marks (P := fun l => ∀ ln col, ∀ k ∈ lex ln col l, ∀ c ∈ k.2.2, c ∈ l) ?_ ?_ ?_ ?_ l.length l (Nat.le_refl _)
  · intro ln col k h; simp [lex_nil] at h
  · intro r ih ln col k h c hc; rw [lex_sp] at h; exact List.mem_cons_of_mem _ (ih _ _ k h c hc)
  · intro r ih ln col k h c hc
    rw [lex_nl] at h
    rcases List.mem_cons.mp h with e | e
    · subst e; rw [List.mem_singleton.mp hc]; exact List.mem_cons_self ..
    · exact List.mem_cons_of_mem _ (ih _ _ k e c hc)
  · intro c r h1 h2 ih ln col k h d hd
    rw [lex_mk _ _ h1 h2] at h
    rcases List.mem_cons.mp h with e | e
    · subst e; exact List.mem_of_mem_take hd
    · exact List.mem_of_mem_drop (ih _ _ k e d hd)
theorem Sm.lex {l : Tx} (h : Cp l) (ln col : Nat) : Sm (lex ln col l) := fun k hk => Cp.of fun c hc => h.mem (lex_mem l ln col k hk c hc)
theorem lay_mks : ∀ ks : List Mk, Sm ks → PyData.canLayAll0 (ks.map dMk) = true
  | [], _ => by simp [PyData.canLayAll0]
  | k :: r, h => by simp [PyData.canLayAll0, PyData.canLay0, dMk, lay_mks r (fun x hx => h x (List.mem_cons_of_mem _ hx)), str_ok (h k (List.mem_cons_self ..))]
theorem dep_mks : ∀ ks : List Mk, PyData.depthAll (ks.map dMk) ≤ 1 + 1
  | [] => by simp [PyData.depthAll]
  | k :: r => by
    have h1 := dep_mks r
    have h2 : (dMk k).depth ≤ 1 + 1 := by simp [dMk, PyData.depth, PyData.depthAll]
    simp only [List.map_cons, PyData.depthAll]
    omega
theorem shp_l {ks : List Mk} (h : Sm ks) : SeqAt.shaped (.list (ks.map dMk)) = true := by
  have h1 := dep_mks ks
  unfold SeqAt.shaped
  rw [Bool.and_eq_true]
  refine ⟨by simp only [PyData.canLay0]; exact lay_mks ks h, decide_eq_true ?_⟩
  simp only [PyData.depth]; omega
theorem shp_t {ks : List Mk} (h : Sm ks) : SeqAt.shaped (.tuple (ks.map dMk)) = true := by
  have h1 := dep_mks ks
  unfold SeqAt.shaped
  rw [Bool.and_eq_true]
  refine ⟨by simp only [PyData.canLay0]; exact lay_mks ks h, decide_eq_true ?_⟩
  simp only [PyData.depth]; omega
theorem eqv_l {ks : List Mk} (h : Sm ks) : PyData.eqv (.list (ks.map dMk)) (.list (ks.map dMk)) = true := SeqAt.eqv_refl _ (SeqAt.canLay_of_shaped (shp_l h))
theorem eqv_t {ks : List Mk} (h : Sm ks) : PyData.eqv (.tuple (ks.map dMk)) (.tuple (ks.map dMk)) = true := SeqAt.eqv_refl _ (SeqAt.canLay_of_shaped (shp_t h))
theorem dp_mks {K : PySem.W.Frag} {H : Hp} : ∀ {vs : List V} {ks : List Mk}, Mks H vs ks → DpAll K H vs (ks.map dMk)
  | _, _, .nil => .nil
  | _, _, .cons ⟨a, e, f⟩ t => by
    subst e
    exact .cons (.tup (sq_tup f) (.cons (.int _) (.cons (.int _) (.cons (.str _) .nil)))) (dp_mks t)
theorem lay_s : ∀ ts : List Tx, (∀ t ∈ ts, Cp t) → PyData.canLayAll0 (ts.map fun t => PyData.str (S t)) = true
  | [], _ => by simp [PyData.canLayAll0]
  | k :: r, h => by simp [PyData.canLayAll0, PyData.canLay0, lay_s r (fun x hx => h x (List.mem_cons_of_mem _ hx)), str_ok (h k (List.mem_cons_self ..))]
theorem dep_s : ∀ ts : List Tx, PyData.depthAll (ts.map fun t => PyData.str (S t)) ≤ 1
  | [] => by simp [PyData.depthAll]
  | k :: r => by
    have h1 := dep_s r
    simp only [List.map_cons, PyData.depthAll, PyData.depth]
    omega
theorem shp_s {ts : List Tx} (h : ∀ t ∈ ts, Cp t) : SeqAt.shaped (.list (ts.map fun t => PyData.str (S t))) = true := by
  have h1 := dep_s ts
  unfold SeqAt.shaped
  rw [Bool.and_eq_true]
  refine ⟨by simp only [PyData.canLay0]; exact lay_s ts h, decide_eq_true ?_⟩
  simp only [PyData.depth]; omega
theorem dp_s {K : PySem.W.Frag} {H : Hp} : ∀ ts : List Tx, DpAll K H ((ts.map S).map V.str) (ts.map fun t => PyData.str (S t))
  | [] => .nil
  | t :: r => .cons (.str _) (dp_s r)
theorem Mks.same {H H' : Hp} {vs : List V} {ks : List Mk} (h : Mks H vs ks) (s : Same H H') : Mks H' vs ks := h.mono fun a xs e => s _ _ e
theorem Mks.keep {h q : Addr} {H H' : Hp} {vs : List V} {ks : List Mk} (m : Mks H vs ks) (a : HpAt H h q) (s : Keep h q H H') : Mks H' vs ks := m.mono fun b xs e => by
  obtain ⟨cs, st, a⟩ := a
  exact s _ _ e (ne_of e a.hh (by intro z; cases z)) (ne_of e a.hq (by intro z; cases z))
theorem keep_tp {h q p : Addr} {H H' : Hp} {vs : List V} (e : H p = some (.tup vs)) (a : HpAt H h q) (s : Keep h q H H') : H' p = some (.tup vs) := by
  obtain ⟨cs, st, a⟩ := a
  exact s _ _ e (ne_of e a.hh (by intro z; cases z)) (ne_of e a.hq (by intro z; cases z))
theorem Mks.app {H : Hp} : ∀ {vs ws : List V} {ks js : List Mk}, Mks H vs ks → Mks H ws js → Mks H (vs ++ ws) (ks ++ js)
  | _, _, _, _, .nil, b => b
  | _, _, _, _, .cons x t, b => .cons x (Mks.app t b)
theorem joinB_L : ∀ ms : List Tx, TL.joinL [32] ms = joinB ms
  | [] => rfl
  | [m] => rfl
  | m :: k :: r => by
    show m ++ ([32] ++ TL.joinL [32] (k :: r)) = m ++ 32 :: joinB (k :: r)
    rw [joinB_L (k :: r)]; rfl
theorem joinB_len : ∀ ms : List Tx, (joinB ms).length ≤ (ms.map (·.length)).sum + ms.length
  | [] => Nat.le_refl _
  | [m] => by show m.length ≤ m.length + 0 + 1; omega
  | m :: k :: r => by
    have := joinB_len (k :: r)
    show (m ++ 32 :: joinB (k :: r)).length ≤ _
    rw [List.length_append, List.length_cons, List.map_cons, List.sum_cons, List.length_cons]; omega
theorem run_rep {p : Nat → Bool} {c : Nat} (hc : p c = true) (n : Nat) (r : Tx) : run p (List.replicate n c ++ r) = n + run p r := by
  induction n with
  | zero => simp
  | succ n ih => rw [List.replicate_succ, List.cons_append, run_cons, if_pos hc, ih]; omega
theorem flat_rep (c n : Nat) : (List.replicate n [c]).flatten = List.replicate n c := by
  induction n with
  | zero => rfl
  | succ n ih => rw [List.replicate_succ, List.flatten_cons, ih, List.replicate_succ]; rfl
theorem lex_long {n : Nat} (h : 0 < n) : lex 0 0 (List.replicate n 113 ++ (List.replicate n 55 ++ (47 :: (List.replicate n 48 ++ [62])))) =
    [(0, 0, List.replicate n 113), (0, n, List.replicate n 55 ++ (47 :: List.replicate n 48)), (0, 3 * n + 1, [62])] := by
  obtain ⟨k, rfl⟩ : ∃ k, n = k + 1 := ⟨n - 1, by omega⟩
  have lq : ∀ r : Tx, run isL (55 :: r) = 0 := fun r => rfl
  have m1 : ∀ r : Tx, markLen (List.replicate (k + 1) 113 ++ (55 :: r)) = k + 1 := fun r => by
    rw [List.replicate_succ, List.cons_append, markLen_cons, if_pos (by decide), ← List.cons_append, ← List.replicate_succ, run_rep (by decide), lq]
  have hd : run isD (List.replicate (k + 1) 55 ++ (47 :: (List.replicate (k + 1) 48 ++ [62]))) = k + 1 := by
    rw [run_rep (by decide)]; rfl
  have m2 : markLen (List.replicate (k + 1) 55 ++ (47 :: (List.replicate (k + 1) 48 ++ [62]))) = 2 * (k + 1) + 1 := by
    have e : markLen (List.replicate (k + 1) 55 ++ (47 :: (List.replicate (k + 1) 48 ++ [62]))) = numLen (List.replicate (k + 1) 55 ++ (47 :: (List.replicate (k + 1) 48 ++ [62]))) := by
      rw [List.replicate_succ, List.cons_append, markLen_cons, if_neg (by decide), if_pos (by decide)]
    rw [e]
    unfold numLen
    rw [hd]
    have g : (List.replicate (k + 1) 55 ++ (47 :: (List.replicate (k + 1) 48 ++ [62])))[k + 1]? = some 47 := by
      rw [List.getElem?_append_right (by simp)]; simp
    have d : (List.replicate (k + 1) 55 ++ (47 :: (List.replicate (k + 1) 48 ++ [62]))).drop (k + 1 + 1) = List.replicate (k + 1) 48 ++ [62] := by
      rw [List.drop_append, List.drop_eq_nil_of_le (by simp), List.length_replicate, Nat.add_sub_cancel_left]; rfl
    rw [if_pos g, d, run_rep (by decide)]
    rw [if_pos (by show 0 < k + 1 + 0; omega)]
    show k + 1 + 1 + (k + 1 + 0) = _
    omega
  have s1 : List.replicate (k + 1) 113 ++ (List.replicate (k + 1) 55 ++ (47 :: (List.replicate (k + 1) 48 ++ [62]))) = 113 :: (List.replicate k 113 ++ (List.replicate (k + 1) 55 ++ (47 :: (List.replicate (k + 1) 48 ++ [62])))) := rfl
  have e1 : markLen (113 :: (List.replicate k 113 ++ (List.replicate (k + 1) 55 ++ (47 :: (List.replicate (k + 1) 48 ++ [62]))))) = k + 1 := by
    rw [← s1]; exact m1 _
  rw [s1, lex_mk _ _ (by decide) (by decide), e1, ← s1]
  rw [List.take_left' (by simp), List.drop_left' (by simp)]
  have s2 : List.replicate (k + 1) 55 ++ (47 :: (List.replicate (k + 1) 48 ++ [62])) = 55 :: (List.replicate k 55 ++ (47 :: (List.replicate (k + 1) 48 ++ [62]))) := rfl
  have e2 : markLen (55 :: (List.replicate k 55 ++ (47 :: (List.replicate (k + 1) 48 ++ [62])))) = 2 * (k + 1) + 1 := by rw [← s2]; exact m2
  rw [s2, lex_mk _ _ (by decide) (by decide), e2, ← s2]
  have s3 : List.replicate (k + 1) 55 ++ (47 :: (List.replicate (k + 1) 48 ++ [62])) = (List.replicate (k + 1) 55 ++ (47 :: List.replicate (k + 1) 48)) ++ [62] := by simp
  rw [s3, List.take_left' (by simp; omega), List.drop_left' (by simp; omega)]
  rw [lex_mk 0 _ (c := 62) (r := []) (by decide) (by decide), show markLen [62] = 1 from rfl]
  rw [show 0 + (k + 1) + (2 * (k + 1) + 1) = 3 * (k + 1) + 1 by omega, Nat.zero_add]
  rfl
end M06

namespace M06
open PySem PySem.Spec PyProof.Rows L2 SX
open C8 (Cal pe_c pe_gc pss_cut)
section
variable {P : Program} {w : World} {K : PySem.W.Frag} {mg : Str → Option Value} {base : Heap}
abbrev s_law : Stmt := topS 19
abbrev n_law : List Str := ["script", "heap", "text", "other", "due", "told", "line", "wide", "place", "more", "many", "mark", "at"]
theorem sc_law : FnScope n_law ["script"] (defScope s_law) := ⟨rfl, rfl, rfl, by decide +kernel, rfl, by decide +kernel, by decide +kernel⟩

def spLaw (K : PySem.W.Frag) : Sp := fun vs H Q _ => ∃ (a : Addr) (ns : List Int), vs = [.ref a] ∧ SqL K H a (ns.map V.int) ∧ ns.length ≤ 63 ∧ ∀ H', Q (.bl true) H'
structure LwS (H : Hp) (h q : Addr) (t u : Tx) (pd pt : Addr) (md mt : List V) : Prop where
  hp : HpAt H h q
  tl : t.length ≤ 1000
  ul : u.length ≤ 1000
  ct : Cp t
  cu : Cp u
  hd : H pd = some (.lst md)
  mkd : Mks H md (lex 0 0 t)
  ht : H pt = some (.tup mt)
  mkt : Mks H mt (lex 0 0 t)
theorem LwS.same {H H' : Hp} {h q : Addr} {t u : Tx} {pd pt : Addr} {md mt : List V} (x : LwS H h q t u pd pt md mt) (s : Same H H') : LwS H' h q t u pd pt md mt :=
  ⟨x.hp.same s, x.tl, x.ul, x.ct, x.cu, s _ _ x.hd, x.mkd.same s, s _ _ x.ht, x.mkt.same s⟩
/-- the slots: what stands in the first six, then line, wide, place, more, many -/
def LwM (a : Addr) (R : L2.St → Hp → Addr → Addr → Tx → Tx → Addr → Addr → List V → List V → Prop)   : L2.St → Hp → Prop := fun σ H => ∃ h q t u pd pt md mt, LwS H h q t u pd pt md mt ∧ R σ H h q t u pd pt md mt
abbrev sl (a h : Addr) (t u : Tx) (pd pt : Addr) (r : L2.St) : L2.St := some (.ref a) :: some (.ref h) :: some (.str (S t)) :: some (.str (S u)) :: some (.ref pd) :: some (.ref pt) :: r
def M5 (a : Addr) : L2.St → Hp → Prop := LwM a fun σ _ h _ t u pd pt _ _ => ∃ y6 y7 y8 y9 y10 y11 y12, σ = sl a h t u pd pt [y6, y7, y8, y9, y10, y11, y12]
def M6 (a : Addr) : L2.St → Hp → Prop := LwM a fun σ _ h _ t u pd pt _ _ => ∃ y6 y8 y9 y10 y11 y12, σ = sl a h t u pd pt [y6, some (.str (S (joinB ((lex 0 0 t).map fun z => z.2.2)))), y8, y9, y10, y11, y12]
def M9 (a : Addr) : L2.St → Hp → Prop := LwM a fun σ H h _ t u pd pt _ _ => ∃ y6 y7 y8 y10 y11 y12 pm mm, σ = sl a h t u pd pt [y6, y7, y8, some (.ref pm), y10, y11, y12] ∧ H pm = some (.lst mm) ∧ Mks H mm ((lex 0 0 u).map (shift (cnt t) (endCol 0 t + 1) 0))
/-- the same behind the two texts: the second one and due are no longer asked for -/
structure LwT (H : Hp) (h q : Addr) (t : Tx) (pt : Addr) (mt : List V) : Prop where
  hp : HpAt H h q
  tl : t.length ≤ 1000
  ct : Cp t
  ht : H pt = some (.tup mt)
  mkt : Mks H mt (lex 0 0 t)
theorem LwT.same {H H' : Hp} {h q : Addr} {t : Tx} {pt : Addr} {mt : List V} (x : LwT H h q t pt mt) (s : Same H H') : LwT H' h q t pt mt := ⟨x.hp.same s, x.tl, x.ct, s _ _ x.ht, x.mkt.same s⟩
def M12 (a : Addr) : L2.St → Hp → Prop := fun σ H => ∃ h q t pt mt, LwT H h q t pt mt ∧ ∃ y3 y4 y6 y7 y8 y9 y10 y11 y12, σ = [some (.ref a), some (.ref h), some (.str (S t)), y3, y4, some (.ref pt), y6, y7, y8, y9, y10, y11, y12]
def M11 (a : Addr) : L2.St → Hp → Prop := fun σ H => ∃ h q t pt mt, LwT H h q t pt mt ∧ ∃ y3 y4 y6 y7 y8 y9 y11 y12, ∃ n : Nat, 10 ≤ n ∧ n ≤ 400 ∧ σ = [some (.ref a), some (.ref h), some (.str (S t)), y3, y4, some (.ref pt), y6, y7, y8, y9, some (.int (n : Int)), y11, y12]
theorem zq : (Str.ofString "q") = S [113] := by decide +kernel
theorem z7 : (Str.ofString "7") = S [55] := by decide +kernel
theorem zz : (Str.ofString "0") = S [48] := by decide +kernel
theorem zgt : (Str.ofString ">") = S [62] := by decide +kernel
theorem zss : (Str.ofString "  ") = S [32, 32] := by decide +kernel
theorem lw_marks {H : Hp} {h q : Addr} {t u : Tx} {pd pt : Addr} {md mt : List V} (x : LwS H h q t u pd pt md mt) : ((lex 0 0 t).map fun k => k.2.2.length).sum ≤ 1000 ∧ (lex 0 0 t).length ≤ 1000 := by
  have h1 := lex_len t 0 0
  have h2 := lex_sum t 0 0
  have h3 := x.tl
  omega
theorem ok_law {f : Addr} {fd : FuncData} (F : Fun K "law" "law" s_law f fd) (T : Txt6 mg) (c_Lheap : Cal P w K mg base 1 "_law_heap" (spHeap K) []) (c_Ldraw : Cal P w K mg base 1 "_law_draw" spDraw []) (c_Ltext : Cal P w K mg base 5 "_law_text" spText []) (c_Lcut : Cal P w K mg base 3 "_law_cut" spCut [])
    (c_marks_of : Cal P w K mg base 4 "marks_of" spMarks []) (k_marks_of_text : CalK P w K mg base 4 "marks_of" ["text"] id spMarks) (c_Lkinds : Cal P w K mg base 1 "_law_kinds" spKinds []) (c_Lstands : Cal P w K mg base 1 "_law_stands" spStands []) : FnOk P w K mg base CX0 6 f fd ["script"] (spLaw K) := by
  refine F.ok sc_law (fun vs H Q E h => ?_) (fun cdv A outer s H vs Q E hr h => ?_)
  · obtain ⟨a, ns, rfl, _⟩ := h
    rfl
  · obtain ⟨a, ns, rfl, hS, hlen, k⟩ := h
    refine ⟨_, (pss_cons (ps_set (i := 1) sc_law.nd rfl (.inl rfl) (pe_c c_Lheap hr (by decide) (by rfl) (pa_cons (pv 0) pa_nil)))
      (pss_cons (ps_par (i := 2) (j := 3) (by rfl) sc_law.nd rfl rfl (by decide) rfl rfl (pa_cons (pe_c c_Ltext hr (by decide) (by rfl) (pa_cons (pv 1) (pa_cons (pe_op op_add pe_int (pe_c c_Ldraw hr (by decide) (by rfl) (pa_cons (pv 1) (pa_cons pe_int pa_nil)))) pa_nil))) (pa_cons (pe_c c_Ltext hr (by decide) (by rfl) (pa_cons (pv 1) (pa_cons pe_int pa_nil))) pa_nil)) (by rfl))
      (pss_cons (ps_set (i := 4) sc_law.nd rfl (.inl rfl) (pe_c c_Lcut hr (by decide) (by rfl) (pa_cons (pv 2) pa_nil)))
      (pss_cut (ps_set (i := 5) sc_law.nd rfl (.inl rfl) (pe_kw k_marks_of_text hr (by decide) (by rfl) (pk_cons (pv 2) pk_nil)))
      (pss_cut (ps_if (PW.pt (pw_or (pt_not (pt_val (pe_c c_Lkinds hr (by decide) (by rfl) (pa_cons (pv 5) pa_nil)))) (pw_or (pt_cmpR (op_neD hr.units) (pe_callTy call_list_of (by rfl) T.b_list (by decide +kernel) (pa_cons (pv 5) pa_nil)) (pv 4) (nomark _)) (pw_or1 (pt_not (pt_val (pe_c c_Lstands hr (by decide) (by rfl) (pa_cons (pv 2) (pa_cons (pv 5) pa_nil))))))))) (pss_one (ps_ret pe_bl)) pss_nil)
      (pss_cut (ps_set (i := 7) sc_law.nd rfl (.inl rfl) (pe_join pe_str (pe_lc (own := [("line", 6), ("at", 12), ("mark", 11)]) (g := gTup K 3 (gCons (gName 6) (gCons (gName 12) (gCons (gName 11) gNil)))) rfl sc_law.nd (pi_list (pv 4)) (blkOk_by (N := n_law) (sc := defScope s_law) (by decide +kernel)) (fun _ _ _ _ _ => (pg_tup rfl (pgs_cons (pg_name (i := 6) sc_law.nd rfl (.inl rfl)) (pgs_cons (pg_name (i := 12) sc_law.nd rfl (.inl rfl)) (pgs_cons (pg_name (i := 11) sc_law.nd rfl (.inl rfl)) pgs_nil))))) (fun _ _ _ _ _ => pts_nil) (fun _ _ _ _ _ => (pv 11)))))
      (pss_cut (ps_if (pt_cmpR (op_neD hr.units) (pe_lc (own := [("line", 6), ("at", 12), ("mark", 11)]) (g := gTup K 3 (gCons (gName 6) (gCons (gName 12) (gCons (gName 11) gNil)))) rfl sc_law.nd (pi_tup (pe_c c_marks_of hr (by decide) (by rfl) (pa_cons (pv 7) pa_nil))) (blkOk_by (N := n_law) (sc := defScope s_law) (by decide +kernel)) (fun _ _ _ _ _ => (pg_tup rfl (pgs_cons (pg_name (i := 6) sc_law.nd rfl (.inl rfl)) (pgs_cons (pg_name (i := 12) sc_law.nd rfl (.inl rfl)) (pgs_cons (pg_name (i := 11) sc_law.nd rfl (.inl rfl)) pgs_nil))))) (fun _ _ _ _ _ => pts_nil) (fun _ _ _ _ _ => (pv 11))) (pe_lc (own := [("line", 6), ("at", 12), ("mark", 11)]) (g := gTup K 3 (gCons (gName 6) (gCons (gName 12) (gCons (gName 11) gNil)))) rfl sc_law.nd (pi_list (pv 4)) (blkOk_by (N := n_law) (sc := defScope s_law) (by decide +kernel)) (fun _ _ _ _ _ => (pg_tup rfl (pgs_cons (pg_name (i := 6) sc_law.nd rfl (.inl rfl)) (pgs_cons (pg_name (i := 12) sc_law.nd rfl (.inl rfl)) (pgs_cons (pg_name (i := 11) sc_law.nd rfl (.inl rfl)) pgs_nil))))) (fun _ _ _ _ _ => pts_nil) (fun _ _ _ _ _ => (pv 11))) (nomark _)) (pss_one (ps_ret pe_bl)) pss_nil)
      (pss_cons (ps_asg (pe_tup (pa_cons (pe_m1 PySem.F.slot_str_count PySem.F.type_str_count mt_count (pv 2) pe_str) (pa_cons (pe_op op_sub (pe_callB call_len_str (by rfl) T.b_len (by decide +kernel) (pa_cons (pv 2) pa_nil)) (pe_m1 PySem.F.slot_str_rfind PySem.F.type_str_rfind mt_rfind (pv 2) pe_str)) pa_nil))) (pg_tup rfl (pgs_cons (pg_name (i := 6) sc_law.nd rfl (.inr rfl)) (pgs_cons (pg_name (i := 8) sc_law.nd rfl (.inr rfl)) pgs_nil))))
      (pss_cut (ps_setLc (i := 9) (own := [("mark", 11)]) rfl sc_law.nd rfl rfl (sw_true rfl rfl rfl (by decide +kernel)) (pi_list (pe_c c_Lcut hr (by decide) (by rfl) (pa_cons (pv 3) pa_nil))) (blkOk_by (N := n_law) (sc := defScope s_law) (by decide +kernel)) (fun _ _ _ _ _ => (pg_name (i := 11) sc_law.nd rfl (.inl rfl))) (fun _ _ _ _ _ => pts_nil) (fun _ _ _ _ _ => (pe_tup (pa_cons (pe_op op_add (pe_ix (r := rIxT K) ix_tup (pv 11) pe_int (fun _ _ => rfl)) (pv 6)) (pa_cons (pe_op op_add (pe_ix (r := rIxT K) ix_tup (pv 11) pe_int (fun _ _ => rfl)) (pe_ifExp (pt_cmpR op_eq (pe_ix (r := rIxT K) ix_tup (pv 11) pe_int (fun _ _ => rfl)) pe_int (nomark _)) (pv 8) pe_int)) (pa_cons (pe_ix (r := rIxT K) ix_tup (pv 11) pe_int (fun _ _ => rfl)) pa_nil))))))
      (pss_cut (ps_if (pt_cmpR (op_neD hr.units) (pe_callTy call_list_of (by rfl) T.b_list (by decide +kernel) (pa_cons (pe_c c_marks_of hr (by decide) (by rfl) (pa_cons (pe_op op_add_str (pe_op op_add_str (pv 2) pe_str) (pv 3)) pa_nil)) pa_nil)) (pe_op op_cat (pv 4) (pv 9)) (nomark _)) (pss_one (ps_ret pe_bl)) pss_nil)
      (pss_cut (ps_set (i := 10) sc_law.nd rfl (.inl rfl) (pe_op op_add pe_int (pe_c c_Ldraw hr (by decide) (by rfl) (pa_cons (pv 1) (pa_cons pe_int pa_nil)))))
      (pss_cut (ps_if (pt_cmpR (op_neD hr.units) (pe_c c_marks_of hr (by decide) (by rfl) (pa_cons (pe_op op_add_str (pe_op op_add_str (pe_op op_add_str (pe_op op_add_str (pe_op op_mulS pe_str (pv 10)) (pe_op op_mulS pe_str (pv 10))) pe_str) (pe_op op_mulS pe_str (pv 10))) pe_str) pa_nil)) (pe_tup (pa_cons (pe_tup (pa_cons pe_int (pa_cons pe_int (pa_cons (pe_op op_mulS pe_str (pv 10)) pa_nil)))) (pa_cons (pe_tup (pa_cons pe_int (pa_cons (pv 10) (pa_cons (pe_op op_add_str (pe_op op_add_str (pe_op op_mulS pe_str (pv 10)) pe_str) (pe_op op_mulS pe_str (pv 10))) pa_nil)))) (pa_cons (pe_tup (pa_cons pe_int (pa_cons (pe_op op_add (pe_op op_mul pe_int (pv 10)) pe_int) (pa_cons pe_str pa_nil)))) pa_nil)))) (nomark _)) (pss_one (ps_ret pe_bl)) pss_nil)
      (pss_cut (ps_if (pt_cmpR (op_neD hr.units) (pe_c c_marks_of hr (by decide) (by rfl) (pa_cons pe_str pa_nil)) (pe_tup (pa_cons (pe_tup (pa_cons pe_int (pa_cons pe_int (pa_cons pe_str pa_nil)))) (pa_cons (pe_tup (pa_cons pe_int (pa_cons pe_int (pa_cons pe_str pa_nil)))) (pa_cons (pe_tup (pa_cons pe_int (pa_cons pe_int (pa_cons pe_str pa_nil)))) (pa_cons (pe_tup (pa_cons pe_int (pa_cons pe_int (pa_cons pe_str pa_nil)))) (pa_cons (pe_tup (pa_cons pe_int (pa_cons pe_int (pa_cons pe_str pa_nil)))) (pa_cons (pe_tup (pa_cons pe_int (pa_cons pe_int (pa_cons pe_str pa_nil)))) (pa_cons (pe_tup (pa_cons pe_int (pa_cons pe_int (pa_cons pe_str pa_nil)))) pa_nil)))))))) (nomark _)) (pss_one (ps_ret pe_bl)) pss_nil)
      (pss_cut (ps_if (pt_cmpR (op_neD hr.units) (pe_c c_marks_of hr (by decide) (by rfl) (pa_cons pe_str pa_nil)) (pe_tup (pa_cons (pe_tup (pa_cons pe_int (pa_cons pe_int (pa_cons pe_str pa_nil)))) (pa_cons (pe_tup (pa_cons pe_int (pa_cons pe_int (pa_cons pe_str pa_nil)))) (pa_cons (pe_tup (pa_cons pe_int (pa_cons pe_int (pa_cons pe_str pa_nil)))) (pa_cons (pe_tup (pa_cons pe_int (pa_cons pe_int (pa_cons pe_str pa_nil)))) (pa_cons (pe_tup (pa_cons pe_int (pa_cons pe_int (pa_cons pe_str pa_nil)))) (pa_cons (pe_tup (pa_cons pe_int (pa_cons pe_int (pa_cons pe_str pa_nil)))) (pa_cons (pe_tup (pa_cons pe_int (pa_cons pe_int (pa_cons pe_str pa_nil)))) (pa_cons (pe_tup (pa_cons pe_int (pa_cons pe_int (pa_cons pe_str pa_nil)))) pa_nil))))))))) (nomark _)) (pss_one (ps_ret pe_bl)) pss_nil)
      (pss_one (ps_ret (pe_and (pe_cmpR (op_eqD hr.units) (pe_c c_marks_of hr (by decide) (by rfl) (pa_cons pe_str pa_nil)) (pe_tup pa_nil) (nomark _)) (pe_and (pe_cmpR (op_eqD hr.units) (pe_c c_marks_of hr (by decide) (by rfl) (pa_cons pe_str pa_nil)) (pe_tup pa_nil) (nomark _)) (pe_one (pe_cmpR (op_eqD hr.units) (pe_c c_marks_of hr (by decide) (by rfl) (pa_cons (pv 2) pa_nil)) (pv 5) (nomark _))))))))))))))))))))), ?_⟩
    -- heap, text, other
    refine ⟨_, rfl, a, ns, rfl, hS, hlen, fun H1 h q s1 nh nq hp1 => ?_⟩
    refine ⟨_, rfl, _, rfl, h, q, 8, rfl, hp1, by decide, by decide, fun d H2 d0 d1 hp2 kp2 => ?_⟩
    refine ⟨_, _, rfl, rfl, h, q, _, rfl, hp2, by omega, by omega, fun t H3 tl ct hp3 kp3 => ?_⟩
    refine ⟨_, rfl, h, q, 2, rfl, hp3, by decide, by decide, fun u H4 ul cu hp4 kp4 => ⟨_, _, rfl, ?_⟩⟩
    -- due, told
    refine ⟨_, rfl, t, rfl, by omega, fun H5 pd md s5 nd hd mkd => ?_⟩
    refine ⟨M5 a, ?_, ?_⟩
    · refine ⟨_, rfl, t, rfl, by omega, fun H6 pt mt s6 nt ht mkt => ?_⟩
      exact ⟨h, q, t, u, pd, pt, md, mt, ⟨(hp4.same s5).same s6, tl, ul, ct, cu, s6 _ _ hd, mkd.same s6, ht, mkt⟩, _, _, _, _, _, _, _, rfl⟩
    clear kp4 kp3 kp2 hp1 hp2 hp3 hp4 s1 nh nq d0 d1 s5 nd hd mkd
    clear H1 H2 H3 H4 H5 tl ul ct cu
    -- the first test
    rintro σ H1 ⟨h, q, t, u, pd, pt, md, mt, L, y6, y7, y8, y9, y10, y11, y12, rfl⟩
    have smL : Sm (lex 0 0 t) := Sm.lex L.ct 0 0
    refine ⟨M5 a, ?_, ?_⟩
    · refine ⟨_, rfl, pt, mt, _, rfl, L.ht, L.mkt, fun H7 s7 => ⟨_, rfl, iteF ?_⟩⟩
      refine ⟨_, rfl, pt, mt, rfl, .inr (sq_tup (s7 _ _ L.ht)), fun pl npl => ?_⟩
      have s8 := s7.trans (same_upd (o := .lst mt) npl)
      have hpl : upd H7 pl (.lst mt) pl = some (.lst mt) := upd_same
      have L8 := L.same s8
      refine ⟨_, rfl, _, _, .lst (sq_lst hpl) (dp_mks L8.mkt), .lst (sq_lst L8.hd) (dp_mks L8.mkd), shp_l smL, shp_l smL, _, rfl, ?_⟩
      rw [eqv_l smL]
      refine iteF ?_
      refine ⟨_, rfl, _, rfl, t, pt, mt, rfl, Nat.le_trans L.tl (by decide), L8.ht, L8.mkt, fun H9 s9 => ⟨_, rfl, iteF ?_⟩⟩
      exact ⟨h, q, t, u, pd, pt, md, mt, L8.same s9, _, _, _, _, _, _, _, rfl⟩
    clear L smL
    clear H1 h q t u pd pt md mt y6 y7 y8 y9 y10 y11 y12
    -- wide
    rintro σ H1 ⟨h, q, t, u, pd, pt, md, mt, L, y6, y7, y8, y9, y10, y11, y12, rfl⟩
    have bd := lw_marks L
    have mlen := L.mkd.len
    refine ⟨M6 a, ?_, ?_⟩
    · refine ⟨⟨_, rfl⟩, _, rfl, pd, rfl, ⟨_, sq_lst L.hd⟩, fun D nD => ?_⟩
      refine lc_list (K := K) (a := pd) (xs := md) (fun i H' => H' D = some (.lst (((((lex 0 0 t).take i).map fun z => z.2.2).map S).map V.str)) ∧ Same H1 H') ⟨upd_same, same_upd nD⟩ (fun i H' _ e => sq_lst (e.2 _ _ L.hd)) ?_ ?_
      · rintro i x H2 hi ⟨hD, sm⟩
        obtain ⟨m, hm, b, rfl, hb⟩ := Mks.get L.mkd hi
        have hil : i < (lex 0 0 t).length := (List.getElem?_eq_some_iff.mp hm).1
        refine ⟨b, _, rfl, sq_tup (sm _ _ hb), rfl, _, _, rfl, _, _, rfl, _, _, rfl, rfl, rfl, _, rfl, _, hD, (by simp only [List.length_map, List.length_take]; exact sl7 (by omega)), ?_, same_at sm nD⟩
        rw [upd_same, get_take _ hm, List.map_append, List.map_append]; rfl
      · rintro H2 ⟨hD, sm1⟩
        rw [mlen, List.take_length] at hD
        refine ⟨_, D, ((lex 0 0 t).map fun z => z.2.2).map S, rfl, rfl, .inl (sq_lst hD), ?_, ?_⟩
        · rw [lens, List.map_map, List.length_map, List.length_map, z32]
          have e2 : ((lex 0 0 t).map (List.length ∘ fun z => z.2.2)).sum = ((lex 0 0 t).map fun k => k.2.2.length).sum := rfl
          rw [e2]
          show _ + (lex 0 0 t).length * 1 ≤ 16777216
          omega
        · rw [z32, join_S, joinB_L]
          exact ⟨h, q, t, u, pd, pt, md, mt, L.same sm1, _, _, _, _, _, _, rfl⟩
    clear L bd mlen
    clear H1 h q t u pd pt md mt y6 y7 y8 y9 y10 y11 y12
    -- the marks of wide
    rintro σ H1 ⟨h, q, t, u, pd, pt, md, mt, L, y6, y8, y9, y10, y11, y12, rfl⟩
    have bd := lw_marks L
    have mlen := L.mkd.len
    have smL : Sm (lex 0 0 t) := Sm.lex L.ct 0 0
    refine ⟨M5 a, ?_, ?_⟩
    · have hj : ((lex 0 0 t).map fun z => z.2.2).length = (lex 0 0 t).length := List.length_map _
      have gd : ∀ m ∈ (lex 0 0 t).map (fun z => z.2.2), Good m := fun m hm => by
        obtain ⟨z, hz, rfl⟩ := List.mem_map.mp hm
        exact lex_good t 0 0 z hz
      have wlen : (joinB ((lex 0 0 t).map fun z => z.2.2)).length ≤ 3000 := by
        have h1 := joinB_len ((lex 0 0 t).map fun z => z.2.2)
        have h2 : ((((lex 0 0 t).map fun z => z.2.2)).map (·.length)).sum = ((lex 0 0 t).map fun k => k.2.2.length).sum := by rw [List.map_map]; rfl
        omega
      have cms : ∀ m ∈ (lex 0 0 t).map (fun z => z.2.2), Cp m := fun m hm => by
        obtain ⟨z, hz, rfl⟩ := List.mem_map.mp hm
        exact smL z hz
      have wlex := lex_join ((lex 0 0 t).map fun z => z.2.2) gd 0 0
      refine ⟨_, rfl, joinB ((lex 0 0 t).map fun z => z.2.2), rfl, by omega, fun H2 pw mw s2 nw hw mkw => ?_⟩
      generalize hms : (lex 0 0 t).map (fun z => z.2.2) = ms at gd wlen cms wlex hj mkw
      have wl := mkw.len
      have wlx := lex_len (joinB ms) 0 0
      refine ⟨pw, rfl, ⟨_, sq_tup hw⟩, fun D2 nD2 => ?_⟩
      refine lc_tup (K := K) (a := pw) (xs := mw) (fun i H' => H' D2 = some (.lst (((((lex 0 0 (joinB ms)).take i).map fun z => z.2.2).map S).map V.str)) ∧ Same H2 H') ⟨upd_same, same_upd nD2⟩ (fun i H' _ e => sq_tup (e.2 _ _ hw)) ?_ ?_
      · rintro i x H3 hi ⟨hD2, sm⟩
        obtain ⟨m, hm, b, rfl, hb⟩ := Mks.get mkw hi
        have hil : i < (lex 0 0 (joinB ms)).length := (List.getElem?_eq_some_iff.mp hm).1
        refine ⟨b, _, rfl, sq_tup (sm _ _ hb), rfl, _, _, rfl, _, _, rfl, _, _, rfl, rfl, rfl, _, rfl, _, hD2, (by simp only [List.length_map, List.length_take]; exact sl7 (by omega)), ?_, same_at sm nD2⟩
        rw [upd_same, get_take _ hm, List.map_append, List.map_append]; rfl
      · rintro H3 ⟨hD2, sm3⟩
        rw [wl, List.take_length, wlex] at hD2
        have L3 := L.same (s2.trans sm3)
        refine ⟨_, rfl, pd, rfl, ⟨_, sq_lst L3.hd⟩, fun D3 nD3 => ?_⟩
        refine lc_list (K := K) (a := pd) (xs := md) (fun i H' => H' D3 = some (.lst (((((lex 0 0 t).take i).map fun z => z.2.2).map S).map V.str)) ∧ Same H3 H') ⟨upd_same, same_upd nD3⟩ (fun i H' _ e => sq_lst (e.2 _ _ L3.hd)) ?_ ?_
        · rintro i x H4 hi ⟨hD3, sm⟩
          obtain ⟨m, hm, b, rfl, hb⟩ := Mks.get L3.mkd hi
          have hil : i < (lex 0 0 t).length := (List.getElem?_eq_some_iff.mp hm).1
          refine ⟨b, _, rfl, sq_tup (sm _ _ hb), rfl, _, _, rfl, _, _, rfl, _, _, rfl, rfl, rfl, _, rfl, _, hD3, (by simp only [List.length_map, List.length_take]; exact sl7 (by omega)), ?_, same_at sm nD3⟩
          rw [upd_same, get_take _ hm, List.map_append, List.map_append]; rfl
        · rintro H4 ⟨hD3, sm4⟩
          rw [mlen, List.take_length, hms] at hD3
          refine ⟨_, _, .lst (sq_lst (sm4 _ _ hD2)) (dp_s ms), .lst (sq_lst hD3) (dp_s ms), shp_s cms, shp_s cms, _, rfl, ?_⟩
          rw [show PyData.eqv (.list (ms.map fun t => PyData.str (S t))) (.list (ms.map fun t => PyData.str (S t))) = true from SeqAt.eqv_refl _ (SeqAt.canLay_of_shaped (shp_s cms))]
          exact iteF ⟨h, q, t, u, pd, pt, md, mt, L3.same sm4, _, _, _, _, _, _, _, rfl⟩
    clear L bd mlen smL
    clear H1 h q t u pd pt md mt y6 y8 y9 y10 y11 y12
    -- line, place, more
    rintro σ H1 ⟨h, q, t, u, pd, pt, md, mt, L, y6, y7, y8, y9, y10, y11, y12, rfl⟩
    have tl := L.tl
    have ul := L.ul
    refine ⟨_, rfl, ⟨_, rfl⟩, S t, _, rfl, rfl, _, rfl, _, rfl, len6 (by omega), _, rfl, ⟨_, rfl⟩, S t, _, rfl, rfl, _, _, rfl, rfl, (by show 2 ≤ sizeLine; decide), fun p np => ?_⟩
    rw [z10, count_S, S_len, show ∀ j : Int, ((fun i j => V.int (i - j)) (t.length : Int) j) = V.int ((t.length : Int) - j) from fun _ => rfl, rfind_S]
    have s2 : Same H1 _ := same_upd (o := .tup [.int ((t.count 10 : Nat) : Int), .int ((endCol 0 t + 1 : Nat) : Int)]) np
    refine ⟨p, _, rfl, sq_tup upd_same, rfl, _, _, rfl, _, _, rfl, rfl, ?_⟩
    have L2 := L.same s2
    generalize upd H1 p (.tup [.int ((t.count 10 : Nat) : Int), .int ((endCol 0 t + 1 : Nat) : Int)]) = H2 at L2
    refine ⟨M9 a, ?_, ?_⟩
    · refine ⟨_, rfl, u, rfl, by omega, fun H3 pc mc s3 nc hc mkc => ?_⟩
      have L3 := L2.same s3
      have ulx := lex_len u 0 0
      have mlen := mkc.len
      refine ⟨pc, rfl, ⟨_, sq_lst hc⟩, fun D nD => ?_⟩
      have hcD : pc ≠ D := ne_of_none hc nD
      refine lc_list (K := K) (a := pc) (xs := mc) (fun i H' => ∃ mm, H' D = some (.lst mm) ∧ Mks H' mm (((lex 0 0 u).take i).map (shift (cnt t) (endCol 0 t + 1) 0)) ∧ Same H3 H') ⟨[], upd_same, .nil, same_upd nD⟩ (fun i H' _ ⟨_, _, _, e⟩ => sq_lst (e _ _ hc)) ?_ ?_
      · rintro i x H4 hi ⟨mm, hD, mk, sm⟩
        obtain ⟨m, hm, b, rfl, hb⟩ := Mks.get mkc hi
        have hil : i < (lex 0 0 u).length := (List.getElem?_eq_some_iff.mp hm).1
        have hb4 := sm _ _ hb
        have mml := mk.len
        rw [List.length_map, List.length_take] at mml
        refine ⟨rfl, _, rfl, b, _, 0, _, rfl, rfl, sq_tup hb4, atI_nat (j := 0) rfl, _, rfl, _, _, rfl, rfl, _, rfl, b, _, 1, _, rfl, rfl, sq_tup hb4, atI_nat (j := 1) rfl, _, rfl, b, _, 0, _, rfl, rfl, sq_tup hb4, atI_nat (j := 0) rfl, rfl, _, rfl, ?_⟩
        have fin : ∀ z : Int, z = (if m.1 = 0 then ((endCol 0 t + 1 : Nat) : Int) else 0) → ∀ p2, H4 p2 = none → ∃ acc, upd H4 p2 (.tup [.int ((m.1 : Int) + ((t.count 10 : Nat) : Int)), .int ((m.2.1 : Int) + z), .str (S m.2.2)]) D = some (.lst acc) ∧ acc.length < sizeLine ∧ ∃ mm', upd (upd H4 p2 (.tup [.int ((m.1 : Int) + ((t.count 10 : Nat) : Int)), .int ((m.2.1 : Int) + z), .str (S m.2.2)])) D (.lst (acc ++ [.ref p2])) D = some (.lst mm') ∧ Mks (upd (upd H4 p2 (.tup [.int ((m.1 : Int) + ((t.count 10 : Nat) : Int)), .int ((m.2.1 : Int) + z), .str (S m.2.2)])) D (.lst (acc ++ [.ref p2]))) mm' (((lex 0 0 u).take (i + 1)).map (shift (cnt t) (endCol 0 t + 1) 0)) ∧ Same H3 (upd (upd H4 p2 (.tup [.int ((m.1 : Int) + ((t.count 10 : Nat) : Int)), .int ((m.2.1 : Int) + z), .str (S m.2.2)])) D (.lst (acc ++ [.ref p2]))) := by
          intro z hz p2 np2
          have hD2 : upd H4 p2 (.tup [.int ((m.1 : Int) + ((t.count 10 : Nat) : Int)), .int ((m.2.1 : Int) + z), .str (S m.2.2)]) D = some (.lst mm) := by
            rw [upd_ne (ne_of_none hD np2)]; exact hD
          refine ⟨mm, hD2, sl7 (by omega), mm ++ [.ref p2], upd_same, ?_, same_at (sm.trans (same_upd np2)) nD⟩
          rw [get_take _ hm]
          refine Mks.snoc ((mk.mono fun a xs e => ?_).mono (keep_tup hD2)) ⟨p2, rfl, keep_tup hD2 _ _ ?_⟩
          · rw [upd_ne (ne_of_none e np2)]; exact e
          · rw [upd_same, hz]
            refine congrArg (fun l => some (HO.tup l)) ?_
            unfold shift
            refine congr (congrArg List.cons (congrArg V.int (by show (m.1 : Int) + ((t.count 10 : Nat) : Int) = ((m.1 + cnt t : Nat) : Int); unfold cnt; omega))) (congr (congrArg List.cons (congrArg V.int ?_)) rfl)
            show _ = ((m.2.1 + (if m.1 = 0 then endCol 0 t + 1 else 0) : Nat) : Int)
            split <;> omega
        refine ite2 (fun h0 => ?_) (fun h0 => ?_)
        · have h0 : m.1 = 0 := by have := V.int.inj (of_decide_eq_true h0); omega
          refine ⟨_, rfl, _, _, rfl, rfl, _, rfl, b, _, 2, _, rfl, rfl, sq_tup hb4, atI_nat (j := 2) rfl, (by show 3 ≤ sizeLine; decide), fun p2 np2 => ?_⟩
          exact fin _ (by rw [if_pos h0]) p2 np2
        · have h0 : ¬ m.1 = 0 := fun z => h0 (decide_eq_true (by rw [z]; rfl))
          refine ⟨_, _, rfl, rfl, _, rfl, b, _, 2, _, rfl, rfl, sq_tup hb4, atI_nat (j := 2) rfl, (by show 3 ≤ sizeLine; decide), fun p2 np2 => ?_⟩
          exact fin _ (by rw [if_neg h0]) p2 np2
      · rintro H4 ⟨mm, hD, mk, sm⟩
        rw [mlen, List.take_length] at mk
        exact ⟨h, q, t, u, pd, pt, md, mt, L3.same sm, _, _, _, _, _, _, D, mm, rfl, hD, mk⟩
    clear L2 L tl ul s2 np
    clear H1 H2 p h q t u pd pt md mt y6 y7 y8 y9 y10 y11 y12
    -- the two texts behind one another
    rintro σ H1 ⟨h, q, t, u, pd, pt, md, mt, L, y6, y7, y8, y10, y11, y12, pm, mm, rfl, hm, mkm⟩
    have tl := L.tl
    have ul := L.ul
    have bd := lw_marks L
    have ulx := lex_len u 0 0
    refine ⟨M12 a, ?_, ?_⟩
    · refine ⟨_, rfl, S t, _, rfl, rfl, (by rw [z32, S_len, S_len]; exact sl6 (by simp; omega)), _, rfl, _, S u, rfl, rfl, (by rw [z32, S_cat, S_len, S_len]; exact sl6 (by simp; omega)), t ++ 32 :: u, (by rw [z32, S_cat, S_cat, List.append_assoc]; rfl), (by simp; omega), fun H2 pw mw s2 nw hw mkw => ?_⟩
      have L2 := L.same s2
      refine ⟨pw, mw, rfl, .inr (sq_tup hw), fun pl npl => ?_⟩
      have s3 : Same H2 _ := same_upd (o := .lst mw) npl
      have hl : upd H2 pl (.lst mw) pl = some (.lst mw) := upd_same
      generalize upd H2 pl (.lst mw) = H3 at s3 hl
      have L3 := L2.same s3
      have e1 := L.mkd.len
      have e2 := mkm.len
      rw [List.length_map] at e2
      refine ⟨_, rfl, _, rfl, pd, pm, md, mm, rfl, rfl, L3.hd, s3 _ _ (s2 _ _ hm), Nat.le_of_lt (sl7 (by omega)), fun pc npc => ?_⟩
      have s4 : Same H3 _ := same_upd (o := .lst (md ++ mm)) npc
      have cc : Cp (t ++ 32 :: u) := L.ct.app (Cp.app (t := [32]) (by unfold Cp; decide) L.cu)
      have sm : Sm (lex 0 0 (t ++ 32 :: u)) := Sm.lex cc 0 0
      have mk4 := (mkw.same s3).same s4
      have mkr := Mks.app (L3.mkd.same s4) (((mkm.same s2).same s3).same s4)
      rw [← lex_two] at mkr
      refine ⟨_, _, .lst (sq_lst (s4 _ _ hl)) (dp_mks mk4), .lst (sq_lst upd_same) (dp_mks mkr), shp_l sm, shp_l sm, _, rfl, ?_⟩
      rw [eqv_l sm]
      have L4 := L3.same s4
      exact iteF ⟨h, q, t, pt, mt, ⟨L4.hp, L4.tl, L4.ct, L4.ht, L4.mkt⟩, _, _, _, _, _, _, _, _, _, rfl⟩
    clear L tl ul bd ulx hm mkm
    clear H1 h q t u pd pt md mt y6 y7 y8 y10 y11 y12 pm mm
    -- many
    rintro σ H1 ⟨h, q, t, pt, mt, L, y3, y4, y6, y7, y8, y9, y10, y11, y12, rfl⟩
    refine ⟨M11 a, ?_, ?_⟩
    · refine ⟨_, rfl, h, q, 300, rfl, L.hp, by decide, by decide, fun d H2 d0 d1 hp2 kp2 => ?_⟩
      obtain ⟨n, rfl⟩ : ∃ n : Nat, d = (n : Int) := ⟨d.toNat, by omega⟩
      exact ⟨_, _, rfl, rfl, h, q, t, pt, mt, ⟨hp2, L.tl, L.ct, keep_tp L.ht L.hp kp2, L.mkt.keep L.hp kp2⟩, _, _, _, _, _, _, _, _, 10 + n, by omega, by omega, rfl⟩
    clear L
    clear H1 h q t pt mt y3 y4 y6 y7 y8 y9 y10 y11 y12
    rintro σ H1 ⟨h, q, t, pt, mt, L, y3, y4, y6, y7, y8, y9, y11, y12, n, n0, n1, rfl⟩
    refine ⟨M12 a, ?_, ?_⟩
    · refine ⟨_, rfl, [113], n, (by rw [← zq]), rfl, by decide, by omega, _, rfl, [55], n, (by rw [← z7]), rfl, by decide, by omega, _, _, rfl, rfl, (by simp only [zq, z7, zz, z47, zgt, S_cat, S_len, flat_rep, List.length_append, List.length_replicate, List.length_cons, List.length_nil]; exact sl6 (by omega)), _, _, rfl, rfl, (by simp only [zq, z7, zz, z47, zgt, S_cat, S_len, flat_rep, List.length_append, List.length_replicate, List.length_cons, List.length_nil]; exact sl6 (by omega)), _, rfl, [48], n, (by rw [← zz]), rfl, by decide, by omega, _, _, rfl, rfl, (by simp only [zq, z7, zz, z47, zgt, S_cat, S_len, flat_rep, List.length_append, List.length_replicate, List.length_cons, List.length_nil]; exact sl6 (by omega)), _, _, rfl, rfl, (by simp only [zq, z7, zz, z47, zgt, S_cat, S_len, flat_rep, List.length_append, List.length_replicate, List.length_cons, List.length_nil]; exact sl6 (by omega)), ?_⟩
      refine ⟨List.replicate n 113 ++ (List.replicate n 55 ++ (47 :: (List.replicate n 48 ++ [62]))), (by simp only [z47, zgt, S_cat, flat_rep, List.append_assoc]; rfl), (by simp; omega), fun H2 pp mm s2 n2 h2 mk2 => ?_⟩
      have L2 := L.same s2
      have el := lex_long (n := n) (by omega)
      refine ⟨_, rfl, [113], n, (by rw [← zq]), rfl, by decide, by omega, (by show 3 ≤ sizeLine; decide), fun p0 np0 => ⟨_, rfl, _, rfl, [55], n, (by rw [← z7]), rfl, by decide, by omega, _, _, rfl, rfl, (by simp only [zq, z7, zz, z47, zgt, S_cat, S_len, flat_rep, List.length_append, List.length_replicate, List.length_cons, List.length_nil]; exact sl6 (by omega)), _, rfl, [48], n, (by rw [← zz]), rfl, by decide, by omega, _, _, rfl, rfl, (by simp only [zq, z7, zz, z47, zgt, S_cat, S_len, flat_rep, List.length_append, List.length_replicate, List.length_cons, List.length_nil]; exact sl6 (by omega)), (by show 3 ≤ sizeLine; decide), fun p1 np1 => ⟨_, rfl, _, _, rfl, rfl, .inl ⟨by decide, by decide⟩, _, _, rfl, rfl, (by show 3 ≤ sizeLine; decide), fun p2 np2 => ⟨(by show 3 ≤ sizeLine; decide), fun p np => ?_⟩⟩⟩⟩
      have sA := (((same_upd np0).trans (same_upd np1)).trans (same_upd np2)).trans (same_upd (o := .tup [.ref p0, .ref p1, .ref p2]) np)
      have cpl : Cp (List.replicate n 113 ++ (List.replicate n 55 ++ (47 :: (List.replicate n 48 ++ [62])))) := Cp.of fun c hc => by
        simp only [List.mem_append, List.mem_cons, List.mem_replicate, List.not_mem_nil, or_false] at hc
        omega
      have sm := Sm.lex cpl 0 0
      rw [el] at mk2 sm
      refine ⟨_, _, .tup (sq_tup (sA _ _ h2)) (dp_mks (mk2.same sA)), .tup (sq_tup upd_same) (dp_mks (ks := [(0, 0, List.replicate n 113), (0, n, List.replicate n 55 ++ (47 :: List.replicate n 48)), (0, 3 * n + 1, [62])]) (.cons ⟨p0, rfl, ?_⟩ (.cons ⟨p1, rfl, ?_⟩ (.cons ⟨p2, rfl, ?_⟩ .nil)))), shp_t sm, shp_t sm, _, rfl, ?_⟩
      · rw [(same_upd np) _ _ ((same_upd np2) _ _ ((same_upd np1) _ _ upd_same)), flat_rep]; rfl
      · rw [(same_upd np) _ _ ((same_upd np2) _ _ upd_same), flat_rep, flat_rep, z47, S_cat, S_cat, List.append_assoc]; rfl
      · rw [(same_upd np) _ _ upd_same, zgt]
        refine congrArg (fun l => some (HO.tup l)) ?_
        refine congr (congrArg List.cons rfl) (congr (congrArg List.cons (congrArg V.int ?_)) rfl)
        show 3 * (n : Int) + 1 = ((3 * n + 1 : Nat) : Int)
        omega
      rw [eqv_t sm]
      exact iteF ⟨h, q, t, pt, mt, L2.same sA, _, _, _, _, _, _, _, _, _, rfl⟩
    clear L
    clear H1 h q t pt mt y3 y4 y6 y7 y8 y9 y11 y12 n n0 n1
    rintro σ H1 ⟨h, q, t, pt, mt, L, y3, y4, y6, y7, y8, y9, y10, y11, y12, rfl⟩
    refine ⟨M12 a, ?_, ?_⟩
    · have el : lex 0 0 (Str.ofString "1/2/3 1//2").cps.toList = [(0, 0, (Str.ofString "1/2").cps.toList), (0, 3, (Str.ofString "/").cps.toList), (0, 4, (Str.ofString "3").cps.toList), (0, 6, (Str.ofString "1").cps.toList), (0, 7, (Str.ofString "/").cps.toList), (0, 8, (Str.ofString "/").cps.toList), (0, 9, (Str.ofString "2").cps.toList)] := by decide +kernel
      refine ⟨(Str.ofString "1/2/3 1//2").cps.toList, by rw [S_tl]; rfl, by decide +kernel, fun H2 pp mm s2 n2 h2 mk2 => ?_⟩
      have L2 := L.same s2
      refine ⟨(by show 3 ≤ sizeLine; decide), fun p0 np0 => ⟨(by show 3 ≤ sizeLine; decide), fun p1 np1 => ⟨(by show 3 ≤ sizeLine; decide), fun p2 np2 => ⟨(by show 3 ≤ sizeLine; decide), fun p3 np3 => ⟨(by show 3 ≤ sizeLine; decide), fun p4 np4 => ⟨(by show 3 ≤ sizeLine; decide), fun p5 np5 => ⟨(by show 3 ≤ sizeLine; decide), fun p6 np6 => ⟨(by show 7 ≤ sizeLine; decide), fun p np => ?_⟩⟩⟩⟩⟩⟩⟩⟩
      have sA := (((((((same_upd np0).trans (same_upd np1)).trans (same_upd np2)).trans (same_upd np3)).trans (same_upd np4)).trans (same_upd np5)).trans (same_upd np6)).trans (same_upd (o := .tup [.ref p0, .ref p1, .ref p2, .ref p3, .ref p4, .ref p5, .ref p6]) np)
      rw [el] at mk2
      have sm : Sm [((0, 0, (Str.ofString "1/2").cps.toList) : Mk), ((0, 3, (Str.ofString "/").cps.toList) : Mk), ((0, 4, (Str.ofString "3").cps.toList) : Mk), ((0, 6, (Str.ofString "1").cps.toList) : Mk), ((0, 7, (Str.ofString "/").cps.toList) : Mk), ((0, 8, (Str.ofString "/").cps.toList) : Mk), ((0, 9, (Str.ofString "2").cps.toList) : Mk)] := fun k hk => by
        rw [← el] at hk; exact Sm.lex (by unfold Cp; decide +kernel) 0 0 k hk
      refine ⟨_, _, .tup (sq_tup (sA _ _ h2)) (dp_mks (mk2.same sA)), .tup (sq_tup upd_same) (dp_mks (ks := [((0, 0, (Str.ofString "1/2").cps.toList) : Mk), ((0, 3, (Str.ofString "/").cps.toList) : Mk), ((0, 4, (Str.ofString "3").cps.toList) : Mk), ((0, 6, (Str.ofString "1").cps.toList) : Mk), ((0, 7, (Str.ofString "/").cps.toList) : Mk), ((0, 8, (Str.ofString "/").cps.toList) : Mk), ((0, 9, (Str.ofString "2").cps.toList) : Mk)]) (.cons ⟨p0, rfl, by rw [S_tl]; exact (same_upd np) _ _ ((same_upd np6) _ _ ((same_upd np5) _ _ ((same_upd np4) _ _ ((same_upd np3) _ _ ((same_upd np2) _ _ ((same_upd np1) _ _ (upd_same)))))))⟩ (.cons ⟨p1, rfl, by rw [S_tl]; exact (same_upd np) _ _ ((same_upd np6) _ _ ((same_upd np5) _ _ ((same_upd np4) _ _ ((same_upd np3) _ _ ((same_upd np2) _ _ (upd_same))))))⟩ (.cons ⟨p2, rfl, by rw [S_tl]; exact (same_upd np) _ _ ((same_upd np6) _ _ ((same_upd np5) _ _ ((same_upd np4) _ _ ((same_upd np3) _ _ (upd_same)))))⟩ (.cons ⟨p3, rfl, by rw [S_tl]; exact (same_upd np) _ _ ((same_upd np6) _ _ ((same_upd np5) _ _ ((same_upd np4) _ _ (upd_same))))⟩ (.cons ⟨p4, rfl, by rw [S_tl]; exact (same_upd np) _ _ ((same_upd np6) _ _ ((same_upd np5) _ _ (upd_same)))⟩ (.cons ⟨p5, rfl, by rw [S_tl]; exact (same_upd np) _ _ ((same_upd np6) _ _ (upd_same))⟩ (.cons ⟨p6, rfl, by rw [S_tl]; exact (same_upd np) _ _ (upd_same)⟩ (.nil))))))))), shp_t sm, shp_t sm, _, rfl, ?_⟩
      rw [eqv_t sm]
      exact iteF ⟨h, q, t, pt, mt, L2.same sA, _, _, _, _, _, _, _, _, _, rfl⟩
    clear L
    clear H1 h q t pt mt y3 y4 y6 y7 y8 y9 y10 y11 y12
    rintro σ H1 ⟨h, q, t, pt, mt, L, y3, y4, y6, y7, y8, y9, y10, y11, y12, rfl⟩
    refine ⟨M12 a, ?_, ?_⟩
    · have el : lex 0 0 (Str.ofString "2x>=-\n=<=>").cps.toList = [(0, 0, (Str.ofString "2").cps.toList), (0, 1, (Str.ofString "x").cps.toList), (0, 2, (Str.ofString ">=").cps.toList), (0, 4, (Str.ofString "-").cps.toList), (0, 5, (Str.ofString "\n").cps.toList), (1, 0, (Str.ofString "=").cps.toList), (1, 1, (Str.ofString "<=").cps.toList), (1, 3, (Str.ofString ">").cps.toList)] := by decide +kernel
      refine ⟨(Str.ofString "2x>=-\n=<=>").cps.toList, by rw [S_tl]; rfl, by decide +kernel, fun H2 pp mm s2 n2 h2 mk2 => ?_⟩
      have L2 := L.same s2
      refine ⟨(by show 3 ≤ sizeLine; decide), fun p0 np0 => ⟨(by show 3 ≤ sizeLine; decide), fun p1 np1 => ⟨(by show 3 ≤ sizeLine; decide), fun p2 np2 => ⟨(by show 3 ≤ sizeLine; decide), fun p3 np3 => ⟨(by show 3 ≤ sizeLine; decide), fun p4 np4 => ⟨(by show 3 ≤ sizeLine; decide), fun p5 np5 => ⟨(by show 3 ≤ sizeLine; decide), fun p6 np6 => ⟨(by show 3 ≤ sizeLine; decide), fun p7 np7 => ⟨(by show 8 ≤ sizeLine; decide), fun p np => ?_⟩⟩⟩⟩⟩⟩⟩⟩⟩
      have sA := ((((((((same_upd np0).trans (same_upd np1)).trans (same_upd np2)).trans (same_upd np3)).trans (same_upd np4)).trans (same_upd np5)).trans (same_upd np6)).trans (same_upd np7)).trans (same_upd (o := .tup [.ref p0, .ref p1, .ref p2, .ref p3, .ref p4, .ref p5, .ref p6, .ref p7]) np)
      rw [el] at mk2
      have sm : Sm [((0, 0, (Str.ofString "2").cps.toList) : Mk), ((0, 1, (Str.ofString "x").cps.toList) : Mk), ((0, 2, (Str.ofString ">=").cps.toList) : Mk), ((0, 4, (Str.ofString "-").cps.toList) : Mk), ((0, 5, (Str.ofString "\n").cps.toList) : Mk), ((1, 0, (Str.ofString "=").cps.toList) : Mk), ((1, 1, (Str.ofString "<=").cps.toList) : Mk), ((1, 3, (Str.ofString ">").cps.toList) : Mk)] := fun k hk => by
        rw [← el] at hk; exact Sm.lex (by unfold Cp; decide +kernel) 0 0 k hk
      refine ⟨_, _, .tup (sq_tup (sA _ _ h2)) (dp_mks (mk2.same sA)), .tup (sq_tup upd_same) (dp_mks (ks := [((0, 0, (Str.ofString "2").cps.toList) : Mk), ((0, 1, (Str.ofString "x").cps.toList) : Mk), ((0, 2, (Str.ofString ">=").cps.toList) : Mk), ((0, 4, (Str.ofString "-").cps.toList) : Mk), ((0, 5, (Str.ofString "\n").cps.toList) : Mk), ((1, 0, (Str.ofString "=").cps.toList) : Mk), ((1, 1, (Str.ofString "<=").cps.toList) : Mk), ((1, 3, (Str.ofString ">").cps.toList) : Mk)]) (.cons ⟨p0, rfl, by rw [S_tl]; exact (same_upd np) _ _ ((same_upd np7) _ _ ((same_upd np6) _ _ ((same_upd np5) _ _ ((same_upd np4) _ _ ((same_upd np3) _ _ ((same_upd np2) _ _ ((same_upd np1) _ _ (upd_same))))))))⟩ (.cons ⟨p1, rfl, by rw [S_tl]; exact (same_upd np) _ _ ((same_upd np7) _ _ ((same_upd np6) _ _ ((same_upd np5) _ _ ((same_upd np4) _ _ ((same_upd np3) _ _ ((same_upd np2) _ _ (upd_same)))))))⟩ (.cons ⟨p2, rfl, by rw [S_tl]; exact (same_upd np) _ _ ((same_upd np7) _ _ ((same_upd np6) _ _ ((same_upd np5) _ _ ((same_upd np4) _ _ ((same_upd np3) _ _ (upd_same))))))⟩ (.cons ⟨p3, rfl, by rw [S_tl]; exact (same_upd np) _ _ ((same_upd np7) _ _ ((same_upd np6) _ _ ((same_upd np5) _ _ ((same_upd np4) _ _ (upd_same)))))⟩ (.cons ⟨p4, rfl, by rw [S_tl]; exact (same_upd np) _ _ ((same_upd np7) _ _ ((same_upd np6) _ _ ((same_upd np5) _ _ (upd_same))))⟩ (.cons ⟨p5, rfl, by rw [S_tl]; exact (same_upd np) _ _ ((same_upd np7) _ _ ((same_upd np6) _ _ (upd_same)))⟩ (.cons ⟨p6, rfl, by rw [S_tl]; exact (same_upd np) _ _ ((same_upd np7) _ _ (upd_same))⟩ (.cons ⟨p7, rfl, by rw [S_tl]; exact (same_upd np) _ _ (upd_same)⟩ (.nil)))))))))), shp_t sm, shp_t sm, _, rfl, ?_⟩
      rw [eqv_t sm]
      exact iteF ⟨h, q, t, pt, mt, L2.same sA, _, _, _, _, _, _, _, _, _, rfl⟩
    clear L
    clear H1 h q t pt mt y3 y4 y6 y7 y8 y9 y10 y11 y12
    rintro σ H1 ⟨h, q, t, pt, mt, L, y3, y4, y6, y7, y8, y9, y10, y11, y12, rfl⟩
    have sm0 : Sm ([] : List Mk) := fun k hk => by cases hk
    have smT : Sm (lex 0 0 t) := Sm.lex L.ct 0 0
    refine ⟨[], (by rw [← z0]; rfl), by decide, fun H2 pp mm s2 n2 h2 mk2 => ⟨by decide, fun p np => ?_⟩⟩
    have s3 := s2.trans (same_upd (o := .tup []) np)
    refine ⟨_, _, .tup (sq_tup ((same_upd np) _ _ h2)) (dp_mks (ks := []) (mk2.same (same_upd np))), .tup (sq_tup upd_same) .nil, shp_t sm0, shp_t sm0, _, rfl, ?_⟩
    rw [show PyData.eqv (.tuple (List.map dMk [])) (.tuple []) = true from eqv_t sm0]
    refine iteT ?_
    have L3 := L.same s3
    generalize upd H2 p (.tup []) = H3 at L3
    clear s3 np h2 mk2
    refine ⟨[32, 32], (by rw [← zss]; rfl), by decide, fun H4 pp mm s4 n2 h2 mk2 => ⟨by decide, fun p np => ?_⟩⟩
    refine ⟨_, _, .tup (sq_tup ((same_upd np) _ _ h2)) (dp_mks (ks := []) (mk2.same (same_upd np))), .tup (sq_tup upd_same) .nil, shp_t sm0, shp_t sm0, _, rfl, ?_⟩
    rw [show PyData.eqv (.tuple (List.map dMk [])) (.tuple []) = true from eqv_t sm0]
    refine iteT ?_
    have L5 := (L3.same s4).same (same_upd (o := .tup []) np)
    generalize upd H4 p (.tup []) = H5 at L5
    refine ⟨_, rfl, t, rfl, Nat.le_trans L.tl (by decide), fun H6 p6 m6 s6 n6 h6 mk6 => ?_⟩
    have L6 := L5.same s6
    refine ⟨_, rfl, _, _, .tup (sq_tup h6) (dp_mks mk6), .tup (sq_tup L6.ht) (dp_mks L6.mkt), shp_t smT, shp_t smT, ?_⟩
    rw [eqv_t smT]
    exact k H6
end
end M06

namespace M06
open PySem PySem.Spec PyProof.Rows L2 SX
open C8 (Cal)
/-! ### what the top has written -/
theorem all_mk {l : PySem.W.OpenLaw} {w : World} {K : PySem.W.Frag} {h : Heap} {mg : Str → Option Value} {fa f1 f2 f3 f4 f5 f6 f7 f8 f9 f10 f11 f12 f13 f14 f15 f16 : Addr} {t1 t2 : Tok} (X : K.In h) (G : h.Ns mainGlobals mg) (hfa : mg "law" = some (.ref fa))
    {od1 an1 : Option Addr} {sl1 : Array (Option Value)} {oc1 kV1 dc1 pm1 cd1 ct1 : Value}
    {od2 an2 : Option Addr} {sl2 : Array (Option Value)} {oc2 kV2 dc2 pm2 cd2 ct2 : Value}
    {od3 an3 : Option Addr} {sl3 : Array (Option Value)} {oc3 kV3 dc3 pm3 cd3 ct3 : Value}
    {od4 an4 : Option Addr} {sl4 : Array (Option Value)} {oc4 kV4 dc4 pm4 cd4 ct4 : Value}
    {od5 an5 : Option Addr} {sl5 : Array (Option Value)} {oc5 kV5 dc5 pm5 cd5 ct5 : Value}
    {od6 an6 : Option Addr} {sl6 : Array (Option Value)} {oc6 kV6 dc6 pm6 cd6 ct6 : Value}
    {od7 an7 : Option Addr} {sl7 : Array (Option Value)} {oc7 kV7 dc7 pm7 cd7 ct7 : Value}
    {od8 an8 : Option Addr} {sl8 : Array (Option Value)} {oc8 kV8 dc8 pm8 cd8 ct8 : Value}
    {od9 an9 : Option Addr} {sl9 : Array (Option Value)} {oc9 kV9 dc9 pm9 cd9 ct9 : Value}
    {od10 an10 : Option Addr} {sl10 : Array (Option Value)} {oc10 kV10 dc10 pm10 cd10 ct10 : Value}
    {od11 an11 : Option Addr} {sl11 : Array (Option Value)} {oc11 kV11 dc11 pm11 cd11 ct11 : Value}
    {od12 an12 : Option Addr} {sl12 : Array (Option Value)} {oc12 kV12 dc12 pm12 cd12 ct12 : Value}
    {od13 an13 : Option Addr} {sl13 : Array (Option Value)} {oc13 kV13 dc13 pm13 cd13 ct13 : Value}
    {od14 an14 : Option Addr} {sl14 : Array (Option Value)} {oc14 kV14 dc14 pm14 cd14 ct14 : Value}
    {od15 an15 : Option Addr} {sl15 : Array (Option Value)} {oc15 kV15 dc15 pm15 cd15 ct15 : Value}
    {od16 an16 : Option Addr} {sl16 : Array (Option Value)} {oc16 kV16 dc16 pm16 cd16 ct16 : Value}
    (a1 : PySem.W.nsIn K mainGlobals "marks_of" = some (some (.ref f1))) (l1 : K.lookup f1 = some ⟨oc1, od1, .func (PySem.W.fnOf "marks_of" "marks_of" (defArgs s_marks_of) (defBody s_marks_of) (defScope s_marks_of) .none kV1 dc1 pm1 an1 cd1 ct1), sl1⟩) (c1 : PySem.W.codeIn K cd1 "marks_of" = true) (k1 : PySem.W.keepIn K (.ref f1) = true)
    (a2 : PySem.W.nsIn K mainGlobals "_mark_end" = some (some (.ref f2))) (l2 : K.lookup f2 = some ⟨oc2, od2, .func (PySem.W.fnOf "_mark_end" "_mark_end" (defArgs s_mark_end) (defBody s_mark_end) (defScope s_mark_end) .none kV2 dc2 pm2 an2 cd2 ct2), sl2⟩) (c2 : PySem.W.codeIn K cd2 "_mark_end" = true) (k2 : PySem.W.keepIn K (.ref f2) = true)
    (a3 : PySem.W.nsIn K mainGlobals "_run_end" = some (some (.ref f3))) (l3 : K.lookup f3 = some ⟨oc3, od3, .func (PySem.W.fnOf "_run_end" "_run_end" (defArgs s_run_end) (defBody s_run_end) (defScope s_run_end) .none kV3 dc3 pm3 an3 cd3 ct3), sl3⟩) (c3 : PySem.W.codeIn K cd3 "_run_end" = true) (k3 : PySem.W.keepIn K (.ref f3) = true)
    (a4 : PySem.W.nsIn K mainGlobals "_numeral_end" = some (some (.ref f4))) (l4 : K.lookup f4 = some ⟨oc4, od4, .func (PySem.W.fnOf "_numeral_end" "_numeral_end" (defArgs s_numeral_end) (defBody s_numeral_end) (defScope s_numeral_end) .none kV4 dc4 pm4 an4 cd4 ct4), sl4⟩) (c4 : PySem.W.codeIn K cd4 "_numeral_end" = true) (k4 : PySem.W.keepIn K (.ref f4) = true)
    (a5 : PySem.W.nsIn K mainGlobals "_law_heap" = some (some (.ref f5))) (l5 : K.lookup f5 = some ⟨oc5, od5, .func (PySem.W.fnOf "_law_heap" "_law_heap" (defArgs s_Lheap) (defBody s_Lheap) (defScope s_Lheap) .none kV5 dc5 pm5 an5 cd5 ct5), sl5⟩) (c5 : PySem.W.codeIn K cd5 "_law_heap" = true) (k5 : PySem.W.keepIn K (.ref f5) = true)
    (a6 : PySem.W.nsIn K mainGlobals "_law_draw" = some (some (.ref f6))) (l6 : K.lookup f6 = some ⟨oc6, od6, .func (PySem.W.fnOf "_law_draw" "_law_draw" (defArgs s_Ldraw) (defBody s_Ldraw) (defScope s_Ldraw) .none kV6 dc6 pm6 an6 cd6 ct6), sl6⟩) (c6 : PySem.W.codeIn K cd6 "_law_draw" = true) (k6 : PySem.W.keepIn K (.ref f6) = true)
    (a7 : PySem.W.nsIn K mainGlobals "_law_pick" = some (some (.ref f7))) (l7 : K.lookup f7 = some ⟨oc7, od7, .func (PySem.W.fnOf "_law_pick" "_law_pick" (defArgs s_Lpick) (defBody s_Lpick) (defScope s_Lpick) .none kV7 dc7 pm7 an7 cd7 ct7), sl7⟩) (c7 : PySem.W.codeIn K cd7 "_law_pick" = true) (k7 : PySem.W.keepIn K (.ref f7) = true)
    (a8 : PySem.W.nsIn K mainGlobals "_law_run" = some (some (.ref f8))) (l8 : K.lookup f8 = some ⟨oc8, od8, .func (PySem.W.fnOf "_law_run" "_law_run" (defArgs s_Lrun) (defBody s_Lrun) (defScope s_Lrun) .none kV8 dc8 pm8 an8 cd8 ct8), sl8⟩) (c8 : PySem.W.codeIn K cd8 "_law_run" = true) (k8 : PySem.W.keepIn K (.ref f8) = true)
    (a9 : PySem.W.nsIn K mainGlobals "_law_piece" = some (some (.ref f9))) (l9 : K.lookup f9 = some ⟨oc9, od9, .func (PySem.W.fnOf "_law_piece" "_law_piece" (defArgs s_Lpiece) (defBody s_Lpiece) (defScope s_Lpiece) .none kV9 dc9 pm9 an9 cd9 ct9), sl9⟩) (c9 : PySem.W.codeIn K cd9 "_law_piece" = true) (k9 : PySem.W.keepIn K (.ref f9) = true)
    (a10 : PySem.W.nsIn K mainGlobals "_law_is_mark" = some (some (.ref f10))) (l10 : K.lookup f10 = some ⟨oc10, od10, .func (PySem.W.fnOf "_law_is_mark" "_law_is_mark" (defArgs s_Lis_mark) (defBody s_Lis_mark) (defScope s_Lis_mark) .none kV10 dc10 pm10 an10 cd10 ct10), sl10⟩) (c10 : PySem.W.codeIn K cd10 "_law_is_mark" = true) (k10 : PySem.W.keepIn K (.ref f10) = true)
    (a11 : PySem.W.nsIn K mainGlobals "_law_size" = some (some (.ref f11))) (l11 : K.lookup f11 = some ⟨oc11, od11, .func (PySem.W.fnOf "_law_size" "_law_size" (defArgs s_Lsize) (defBody s_Lsize) (defScope s_Lsize) .none kV11 dc11 pm11 an11 cd11 ct11), sl11⟩) (c11 : PySem.W.codeIn K cd11 "_law_size" = true) (k11 : PySem.W.keepIn K (.ref f11) = true)
    (a12 : PySem.W.nsIn K mainGlobals "_law_cut" = some (some (.ref f12))) (l12 : K.lookup f12 = some ⟨oc12, od12, .func (PySem.W.fnOf "_law_cut" "_law_cut" (defArgs s_Lcut) (defBody s_Lcut) (defScope s_Lcut) .none kV12 dc12 pm12 an12 cd12 ct12), sl12⟩) (c12 : PySem.W.codeIn K cd12 "_law_cut" = true) (k12 : PySem.W.keepIn K (.ref f12) = true)
    (a13 : PySem.W.nsIn K mainGlobals "_law_kinds" = some (some (.ref f13))) (l13 : K.lookup f13 = some ⟨oc13, od13, .func (PySem.W.fnOf "_law_kinds" "_law_kinds" (defArgs s_Lkinds) (defBody s_Lkinds) (defScope s_Lkinds) .none kV13 dc13 pm13 an13 cd13 ct13), sl13⟩) (c13 : PySem.W.codeIn K cd13 "_law_kinds" = true) (k13 : PySem.W.keepIn K (.ref f13) = true)
    (a14 : PySem.W.nsIn K mainGlobals "_law_stands" = some (some (.ref f14))) (l14 : K.lookup f14 = some ⟨oc14, od14, .func (PySem.W.fnOf "_law_stands" "_law_stands" (defArgs s_Lstands) (defBody s_Lstands) (defScope s_Lstands) .none kV14 dc14 pm14 an14 cd14 ct14), sl14⟩) (c14 : PySem.W.codeIn K cd14 "_law_stands" = true) (k14 : PySem.W.keepIn K (.ref f14) = true)
    (a15 : PySem.W.nsIn K mainGlobals "_law_text" = some (some (.ref f15))) (l15 : K.lookup f15 = some ⟨oc15, od15, .func (PySem.W.fnOf "_law_text" "_law_text" (defArgs s_Ltext) (defBody s_Ltext) (defScope s_Ltext) .none kV15 dc15 pm15 an15 cd15 ct15), sl15⟩) (c15 : PySem.W.codeIn K cd15 "_law_text" = true) (k15 : PySem.W.keepIn K (.ref f15) = true)
    (a16 : PySem.W.nsIn K mainGlobals "law" = some (some (.ref f16))) (l16 : K.lookup f16 = some ⟨oc16, od16, .func (PySem.W.fnOf "law" "law" (defArgs s_law) (defBody s_law) (defScope s_law) .none kV16 dc16 pm16 an16 cd16 ct16), sl16⟩) (c16 : PySem.W.codeIn K cd16 "law" = true) (k16 : PySem.W.keepIn K (.ref f16) = true)
    (z_len : PySem.W.nsIn K mainGlobals "len" = some none)
    (z_range : PySem.W.nsIn K mainGlobals "range" = some none)
    (z_int : PySem.W.nsIn K mainGlobals "int" = some none)
    (z_abs : PySem.W.nsIn K mainGlobals "abs" = some none)
    (z_all : PySem.W.nsIn K mainGlobals "all" = some none)
    (z_any : PySem.W.nsIn K mainGlobals "any" = some none)
    (z_sum : PySem.W.nsIn K mainGlobals "sum" = some none)
    (z_tuple : PySem.W.nsIn K mainGlobals "tuple" = some none)
    (z_list : PySem.W.nsIn K mainGlobals "list" = some none)
    (z_str : PySem.W.nsIn K mainGlobals "str" = some none)
    (z_bool : PySem.W.nsIn K mainGlobals "bool" = some none)
    (z_isinstance : PySem.W.nsIn K mainGlobals "isinstance" = some none)
    (zL : PySem.W.nsIn K mainGlobals "LETTERS" = some (some (.str (Str.ofString "abcdefghijklmnopqrstuvwxyz") t1)))
    (zD : PySem.W.nsIn K mainGlobals "DIGITS" = some (some (.str (Str.ofString "0123456789") t2))) :
    ∃ fd : FuncData, (∀ (s : Shared) (v : Value), BindsTo s fd ⟨[v], []⟩ [("script", v)]) ∧ ∀ base : Heap, K.In base → base.Ns mainGlobals mg → FnOk l.prog w K mg base CX0 6 fa fd ["script"] (spLaw K) := by
  have e := hfa.symm.trans (PySem.W.mg_of X G a16)
  cases e
  have F1 := fun_mk (st := s_marks_of) l1 c1 k1
  have D1 : Df K mg "marks_of" s_marks_of ["text"] := ⟨_, _, F1, PySem.W.mg_of X G a1, F1.binds fun _ _ _ _ _ _ us hl => match us, hl with | [_], _ => rfl⟩
  have F2 := fun_mk (st := s_mark_end) l2 c2 k2
  have D2 : Df K mg "_mark_end" s_mark_end ["text", "start"] := ⟨_, _, F2, PySem.W.mg_of X G a2, F2.binds fun _ _ _ _ _ _ us hl => match us, hl with | [_, _], _ => rfl⟩
  have F3 := fun_mk (st := s_run_end) l3 c3 k3
  have D3 : Df K mg "_run_end" s_run_end ["text", "start", "signs"] := ⟨_, _, F3, PySem.W.mg_of X G a3, F3.binds fun _ _ _ _ _ _ us hl => match us, hl with | [_, _, _], _ => rfl⟩
  have F4 := fun_mk (st := s_numeral_end) l4 c4 k4
  have D4 : Df K mg "_numeral_end" s_numeral_end ["text", "start"] := ⟨_, _, F4, PySem.W.mg_of X G a4, F4.binds fun _ _ _ _ _ _ us hl => match us, hl with | [_, _], _ => rfl⟩
  have F5 := fun_mk (st := s_Lheap) l5 c5 k5
  have D5 : Df K mg "_law_heap" s_Lheap ["script"] := ⟨_, _, F5, PySem.W.mg_of X G a5, F5.binds fun _ _ _ _ _ _ us hl => match us, hl with | [_], _ => rfl⟩
  have F6 := fun_mk (st := s_Ldraw) l6 c6 k6
  have D6 : Df K mg "_law_draw" s_Ldraw ["heap", "many"] := ⟨_, _, F6, PySem.W.mg_of X G a6, F6.binds fun _ _ _ _ _ _ us hl => match us, hl with | [_, _], _ => rfl⟩
  have F7 := fun_mk (st := s_Lpick) l7 c7 k7
  have D7 : Df K mg "_law_pick" s_Lpick ["heap", "some"] := ⟨_, _, F7, PySem.W.mg_of X G a7, F7.binds fun _ _ _ _ _ _ us hl => match us, hl with | [_, _], _ => rfl⟩
  have F8 := fun_mk (st := s_Lrun) l8 c8 k8
  have D8 : Df K mg "_law_run" s_Lrun ["heap", "signs", "most"] := ⟨_, _, F8, PySem.W.mg_of X G a8, F8.binds fun _ _ _ _ _ _ us hl => match us, hl with | [_, _, _], _ => rfl⟩
  have F9 := fun_mk (st := s_Lpiece) l9 c9 k9
  have D9 : Df K mg "_law_piece" s_Lpiece ["heap"] := ⟨_, _, F9, PySem.W.mg_of X G a9, F9.binds fun _ _ _ _ _ _ us hl => match us, hl with | [_], _ => rfl⟩
  have F10 := fun_mk (st := s_Lis_mark) l10 c10 k10
  have D10 : Df K mg "_law_is_mark" s_Lis_mark ["piece"] := ⟨_, _, F10, PySem.W.mg_of X G a10, F10.binds fun _ _ _ _ _ _ us hl => match us, hl with | [_], _ => rfl⟩
  have F11 := fun_mk (st := s_Lsize) l11 c11 k11
  have D11 : Df K mg "_law_size" s_Lsize ["room"] := ⟨_, _, F11, PySem.W.mg_of X G a11, F11.binds fun _ _ _ _ _ _ us hl => match us, hl with | [_], _ => rfl⟩
  have F12 := fun_mk (st := s_Lcut) l12 c12 k12
  have D12 : Df K mg "_law_cut" s_Lcut ["text"] := ⟨_, _, F12, PySem.W.mg_of X G a12, F12.binds fun _ _ _ _ _ _ us hl => match us, hl with | [_], _ => rfl⟩
  have F13 := fun_mk (st := s_Lkinds) l13 c13 k13
  have D13 : Df K mg "_law_kinds" s_Lkinds ["told"] := ⟨_, _, F13, PySem.W.mg_of X G a13, F13.binds fun _ _ _ _ _ _ us hl => match us, hl with | [_], _ => rfl⟩
  have F14 := fun_mk (st := s_Lstands) l14 c14 k14
  have D14 : Df K mg "_law_stands" s_Lstands ["text", "told"] := ⟨_, _, F14, PySem.W.mg_of X G a14, F14.binds fun _ _ _ _ _ _ us hl => match us, hl with | [_, _], _ => rfl⟩
  have F15 := fun_mk (st := s_Ltext) l15 c15 k15
  have D15 : Df K mg "_law_text" s_Ltext ["heap", "many"] := ⟨_, _, F15, PySem.W.mg_of X G a15, F15.binds fun _ _ _ _ _ _ us hl => match us, hl with | [_, _], _ => rfl⟩
  have F16 := fun_mk (st := s_law) l16 c16 k16
  have eL : S LET = Str.ofString "abcdefghijklmnopqrstuvwxyz" := by decide +kernel
  have eD : S DIG = Str.ofString "0123456789" := by decide +kernel
  have T : Txt6 mg := ⟨PySem.W.mg_none_of X G z_len, PySem.W.mg_none_of X G z_range, PySem.W.mg_none_of X G z_int, PySem.W.mg_none_of X G z_abs, PySem.W.mg_none_of X G z_all, PySem.W.mg_none_of X G z_any, PySem.W.mg_none_of X G z_sum, PySem.W.mg_none_of X G z_tuple, PySem.W.mg_none_of X G z_list, PySem.W.mg_none_of X G z_str, PySem.W.mg_none_of X G z_bool, PySem.W.mg_none_of X G z_isinstance, ⟨_, PySem.W.mg_of X G zL, t1, by rw [eL]⟩, ⟨_, PySem.W.mg_of X G zD, t2, by rw [eD]⟩⟩
  refine ⟨PySem.W.fnOf "law" "law" (defArgs s_law) (defBody s_law) (defScope s_law) .none kV16 dc16 pm16 an16 cd16 ct16, fun s v => .of_eq rfl, fun base _ _ => ?_⟩
  have g_run : Cal l.prog w K mg base 1 "_run_end" spRun [] := c_run_end D3 T
  have g_num : Cal l.prog w K mg base 2 "_numeral_end" spNum [] := cal_of D4 fun _ _ F => ok_numeral_end F T g_run
  have g_mark : Cal l.prog w K mg base 3 "_mark_end" spMark [] := cal_of D2 fun _ _ F => ok_mark_end F T g_run g_num
  have o_marks := ok_marks_of (P := l.prog) (w := w) (base := base) F1 T g_mark
  have g_marks : Cal l.prog w K mg base 4 "marks_of" spMarks [] := cal_of D1 fun _ _ F => ok_marks_of F T g_mark
  have k_marks : CalK l.prog w K mg base 4 "marks_of" ["text"] id spMarks := ⟨_, _, ["text"], id, o_marks, PySem.W.mg_of X G a1, k1, fun s ws hl => match ws, hl with | [_], _ => .of_eq rfl, fun _ _ r => r⟩
  have g_heap : Cal l.prog w K mg base 1 "_law_heap" (spHeap K) [] := cal_of D5 fun _ _ F => ok_heap F T
  have g_draw : Cal l.prog w K mg base 1 "_law_draw" spDraw [] := cal_of D6 fun _ _ F => ok_draw F T
  have g_pS : Cal l.prog w K mg base 2 "_law_pick" spPickS [] := cal_of D7 fun _ _ F => ok_pickS F T g_draw
  have g_pL : Cal l.prog w K mg base 2 "_law_pick" spPickL [] := cal_of D7 fun _ _ F => ok_pickL F T g_draw
  have g_rn : Cal l.prog w K mg base 3 "_law_run" spRunL [] := cal_of D8 fun _ _ F => ok_run F T g_draw g_pS
  have g_pc : Cal l.prog w K mg base 4 "_law_piece" spPiece [] := cal_of D9 fun _ _ F => ok_piece F T g_draw g_pS g_pL g_rn
  have g_is : Cal l.prog w K mg base 1 "_law_is_mark" spIs [] := cal_of D10 fun _ _ F => ok_is F T
  have g_sz : Cal l.prog w K mg base 2 "_law_size" spSize [] := cal_of D11 fun _ _ F => ok_size F T g_is
  have g_ct : Cal l.prog w K mg base 3 "_law_cut" spCut [] := cal_of D12 fun _ _ F => ok_cut F T g_sz
  have g_kd : Cal l.prog w K mg base 1 "_law_kinds" spKinds [] := cal_of D13 fun _ _ F => ok_kinds F T
  have g_st : Cal l.prog w K mg base 1 "_law_stands" spStands [] := cal_of D14 fun _ _ F => ok_stands F T
  have g_tx : Cal l.prog w K mg base 5 "_law_text" spText [] := cal_of D15 fun _ _ F => ok_text F T g_draw g_pL g_pc
  exact ok_law F16 T g_heap g_draw g_tx g_ct g_marks k_marks g_kd g_st
end M06
open PySem PySem.W PyProof.Rows
set_option maxHeartbeats 0 in
theorem PySem.Challenge.cw_paperbest_k06_marks_cut_and_joined_holds : PySem.Challenge.rw_paperbest_k06_marks_cut_and_joined.Holds := by
  w_on; o_law; k_head; (case hw => w_witness2)
  k_fill
  refine L2.walk_of (l := PySem.Challenge.rw_paperbest_k06_marks_cut_and_joined) (n := 63) (k := 6) (x := "script") (CX := fun _ => L2.CX0) (sp := fun w => M06.spLaw _) rfl (by decide) rfl ⟨rfl, by decide, by decide⟩ (fun w h Y => PySem.W.kIn_of Y) ?F (fun _ _ a ns hl _ hS => ⟨a, ns, rfl, hS, hl, fun _ => rfl⟩) (fun _ _ _ _ _ h => h)
  case F =>
    intro w mg fa h KX G hmg
    refine' M06.all_mk KX G hmg ?a1 ?l1 ?c1 ?k1 ?a2 ?l2 ?c2 ?k2 ?a3 ?l3 ?c3 ?k3 ?a4 ?l4 ?c4 ?k4 ?a5 ?l5 ?c5 ?k5 ?a6 ?l6 ?c6 ?k6 ?a7 ?l7 ?c7 ?k7 ?a8 ?l8 ?c8 ?k8 ?a9 ?l9 ?c9 ?k9 ?a10 ?l10 ?c10 ?k10 ?a11 ?l11 ?c11 ?k11 ?a12 ?l12 ?c12 ?k12 ?a13 ?l13 ?c13 ?k13 ?a14 ?l14 ?c14 ?k14 ?a15 ?l15 ?c15 ?k15 ?a16 ?l16 ?c16 ?k16 ?z_len ?z_range ?z_int ?z_abs ?z_all ?z_any ?z_sum ?z_tuple ?z_list ?z_str ?z_bool ?z_isinstance ?zL ?zD
    (case a1 => k_is); (case l1 => k_is); (case c1 => k_is); (case k1 => k_is); (case a2 => k_is); (case l2 => k_is); (case c2 => k_is); (case k2 => k_is)
    (case a3 => k_is); (case l3 => k_is); (case c3 => k_is); (case k3 => k_is); (case a4 => k_is); (case l4 => k_is); (case c4 => k_is); (case k4 => k_is)
    (case a5 => k_is); (case l5 => k_is); (case c5 => k_is); (case k5 => k_is); (case a6 => k_is); (case l6 => k_is); (case c6 => k_is); (case k6 => k_is)
    (case a7 => k_is); (case l7 => k_is); (case c7 => k_is); (case k7 => k_is); (case a8 => k_is); (case l8 => k_is); (case c8 => k_is); (case k8 => k_is)
    (case a9 => k_is); (case l9 => k_is); (case c9 => k_is); (case k9 => k_is); (case a10 => k_is); (case l10 => k_is); (case c10 => k_is); (case k10 => k_is)
    (case a11 => k_is); (case l11 => k_is); (case c11 => k_is); (case k11 => k_is); (case a12 => k_is); (case l12 => k_is); (case c12 => k_is); (case k12 => k_is)
    (case a13 => k_is); (case l13 => k_is); (case c13 => k_is); (case k13 => k_is); (case a14 => k_is); (case l14 => k_is); (case c14 => k_is); (case k14 => k_is)
    (case a15 => k_is); (case l15 => k_is); (case c15 => k_is); (case k15 => k_is); (case a16 => k_is); (case l16 => k_is); (case c16 => k_is); (case k16 => k_is)
    (case z_len => k_is); (case z_range => k_is); (case z_int => k_is); (case z_abs => k_is); (case z_all => k_is); (case z_any => k_is); (case z_sum => k_is); (case z_tuple => k_is)
    (case z_list => k_is); (case z_str => k_is); (case z_bool => k_is); (case z_isinstance => k_is); (case zL => k_is); (case zD => k_is)
