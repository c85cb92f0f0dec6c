import PyProof.Rows.All
import Wide.All
import OpenK.AllK
import Wide.FinOn
import HandS.ForMost
import HandS.ForExc
import HandS.Wide
import HandS.IsInst
import HandS.OwnEq
import HandS.NoneIn
import HandS.RaiseMore
import HandS.Deep
import HandS.TupAny
import HandS.Flow
import HandS.Evl
import HandS.More
import HandS.Style
import KE.SortData
import PyProof.Rows.RegFStrParts
import HandS.DeepEq
import HandS.DictEq
import HandS.ListEq
import HandS.Exc
import HandS.ExcInit
import HandS.ExcField
import HandS.ExcIs
import HandS.ExcOwn
import HandS.WordsExc
import HandS.DictComp
import HandS.Conv
import HandS.Sort
import KE.KDictList
import PyProof.ReprLen
import KE.KRevSl
import PyProof.Rows.StrSplitJoin
import PyProof.Rows.StrSplitAre
import PyProof.Rows.StrItems
import HandS.AnyAll
import HandS.Iter
import PyProof.ReprRoads
import PySem.Challenge.RW_likehouses_k49_numbers_read
import KE.RegKIsAll
set_option Elab.async false
set_option linter.all false
section
set_option maxRecDepth 100000
set_option maxHeartbeats 4000000
namespace LH
open PySem L2
/-! ### heaps -/
/-- all that was tracked but at p stands as it stood -/
def Sb (p : Addr) (H H' : Hp) : Prop := ∀ b o, b ≠ p → H b = some o → H' b = some o
theorem Sb.refl (p : Addr) (H : Hp) : Sb p H H := fun _ _ _ h => h
theorem Sb.trans {p : Addr} {H H1 H2 : Hp} (a : Sb p H H1) (b : Sb p H1 H2) : Sb p H H2 := fun x o n h => b x o n (a x o n h)
theorem Sb.of_same {p : Addr} {H H' : Hp} (a : Same H H') : Sb p H H' := fun x o _ h => a x o h
theorem Sb.new {p q : Addr} {H H' : Hp} {o : HO} (a : Sb p H H') (h : H q = none) : Sb p H (upd H' q o) := fun b u n e => by
  rw [upd_ne (ne_of_none e h)]
  exact a b u n e
theorem Sb.pen {p : Addr} {H H' : Hp} {o : HO} (a : Sb p H H') : Sb p H (upd H' p o) := fun b u n e => by
  rw [upd_ne n]
  exact a b u n e
theorem Same.new {q : Addr} {H H' : Hp} {o : HO} (a : Same H H') (h : H q = none) : Same H (upd H' q o) := fun b u e => by
  rw [upd_ne (ne_of_none e h)]
  exact a b u e
theorem upd_new {H : Hp} {a p : Addr} {o u : HO} (h : H a = some o) (hp : H p = none) : upd H p u a = some o := by
  rw [upd_ne (ne_of_none h hp)]
  exact h
theorem upd_keep {H : Hp} {a p : Addr} {o u : HO} (h : H a = some o) (hp : a ≠ p) : upd H p u a = some o := by
  rw [upd_ne hp]
  exact h
theorem upd_keep' {H : Hp} {a p : Addr} {o u : HO} (h : H a = some o) (hp : p ≠ a) : upd H p u a = some o := by
  rw [upd_ne (Ne.symm hp)]
  exact h
/-- what is free behind was free ahead -/
theorem free_upd {H : Hp} {q p : Addr} {o : HO} (h : upd H p o q = none) : H q = none := by
  unfold upd at h
  split at h
  · cases h
  · exact h
theorem Sb.free {p q : Addr} {H H' : Hp} (a : Sb p H H') (hp : q ≠ p) (h : H' q = none) : H q = none := by
  cases e : H q with
  | none => rfl
  | some o => rw [a q o hp e] at h; cases h
theorem Same.look {H H' : Hp} {a : Addr} {o : HO} (s : Same H H') (h : H a = some o) : H' a = some o := s a o h
theorem Sb.look {p : Addr} {H H' : Hp} {a : Addr} {o : HO} (s : Sb p H H') (n : a ≠ p) (h : H a = some o) : H' a = some o := s a o n h
theorem Sb.look' {p : Addr} {H H' : Hp} {a : Addr} {o : HO} (s : Sb p H H') (n : p ≠ a) (h : H a = some o) : H' a = some o := s a o (Ne.symm n) h
/-- an object that was not there ahead has changed -/
theorem Sb.mut {p l : Addr} {H0 H H' : Hp} (a : Sb p H0 H) (b : Sb l H H') (h : H0 l = none) : Sb p H0 H' := fun x o n e => b x o (ne_of_none e h) (a x o n e)
theorem Same.mut {l : Addr} {H0 H H' : Hp} (a : Same H0 H) (b : Sb l H H') (h : H0 l = none) : Same H0 H' := fun x o e => b x o (ne_of_none e h) (a x o e)
theorem Same.free' {H H' : Hp} (e : Same H H') {l : Addr} (h : H' l = none) : H l = none := e.free h
/-! ### the pen -/
def penK (c : Addr) (t r : Int) : List (Key × V) := [(.inr "cells", .ref c), (.inr "turn", .int t), (.inr "rest", .int r)]
theorem ofS_inj {a b : String} (h : (Str.ofString a) = Str.ofString b) : a = b := by
  rw [Str.ofString_eq_toList, Str.ofString_eq_toList] at h
  have h1 := congrArg (fun z : Str => z.cps.toList) h
  simp only [] at h1
  have h2 : a.toList = b.toList := by
    generalize a.toList = x at h1
    generalize b.toList = y at h1
    induction x generalizing y with
    | nil => cases y with
      | nil => rfl
      | cons => simp at h1
    | cons c r ih => cases y with
      | nil => simp at h1
      | cons d q =>
        simp only [List.map_cons, List.cons.injEq] at h1
        rw [ih _ h1.2, Char.ext (UInt32.toNat_inj.mp h1.1)]
  exact String.toList_inj.mp h2
theorem ofS_iff {a b : String} : (Str.ofString a = Str.ofString b) = (a = b) := propext ⟨ofS_inj, fun h => by rw [h]⟩
theorem key_iff {a b : Str} : ((Sum.inr a : Key) = Sum.inr b) = (a = b) := propext ⟨fun h => Sum.inr.inj h, fun h => by rw [h]⟩
theorem penK_cells (c : Addr) (t r : Int) : valV (penK c t r) (.inr "cells") = some (.ref c) := by
  simp [penK, valV, key_iff, ofS_iff]
theorem penK_turn (c : Addr) (t r : Int) : valV (penK c t r) (.inr "turn") = some (.int t) := by
  simp [penK, valV, key_iff, ofS_iff]
theorem penK_rest (c : Addr) (t r : Int) : valV (penK c t r) (.inr "rest") = some (.int r) := by
  simp [penK, valV, key_iff, ofS_iff]
theorem put_turn (c : Addr) (t r u : Int) : putK (penK c t r) (.inr "turn") (.int u) = penK c u r := by
  simp [penK, putK, key_iff, ofS_iff]
theorem put_rest (c : Addr) (t r u : Int) : putK (penK c t r) (.inr "rest") (.int u) = penK c t u := by
  simp [penK, putK, key_iff, ofS_iff]
theorem make_pen (c : Addr) (t r : Int) : mergeK [] (penK c t r) = penK c t r := by
  simp [penK, mergeK, putK, key_iff, ofS_iff]
/-- a pen stands at p, its cells at c, whose turn is at most n -/
def Pen (H : Hp) (p c : Addr) (n : Nat) : Prop := ∃ (ns : List Int) (t r : Int), H p = some (.dK (penK c t r)) ∧ H c = some (.lst (ns.map V.int)) ∧ ns.length ≤ 63 ∧ 0 ≤ t ∧ t ≤ n ∧ 0 ≤ r
theorem Pen.mono {H : Hp} {p c : Addr} {n m : Nat} (h : Pen H p c n) (l : n ≤ m) : Pen H p c m := by
  obtain ⟨ns, t, r, h1, h2, h3, h4, h5, h6⟩ := h
  exact ⟨ns, t, r, h1, h2, h3, h4, by omega, h6⟩
theorem Pen.same {H H' : Hp} {p c : Addr} {n : Nat} (h : Pen H p c n) (s : Same H H') : Pen H' p c n := by
  obtain ⟨ns, t, r, h1, h2, h3⟩ := h
  exact ⟨ns, t, r, s _ _ h1, s _ _ h2, h3⟩
theorem Pen.ne {H : Hp} {p c q : Addr} {n : Nat} {xs : List V} (h : Pen H p c n) (e : H q = some (.lst xs)) : q ≠ p := by
  obtain ⟨ns, t, r, h1, _⟩ := h
  exact ne_of e h1 (by intro z; cases z)
theorem Pen.neI {H : Hp} {p c q C dx : Addr} {n : Nat} {fs : List (Str × V)} (h : Pen H p c n) (e : H q = some (.ins C dx fs)) : q ≠ p := by
  obtain ⟨ns, t, r, h1, _⟩ := h
  exact ne_of e h1 (by intro z; cases z)
theorem Pen.neT {H : Hp} {p c q : Addr} {n : Nat} {xs : List V} (h : Pen H p c n) (e : H q = some (.tup xs)) : q ≠ p := by
  obtain ⟨ns, t, r, h1, _⟩ := h
  exact ne_of e h1 (by intro z; cases z)
theorem Pen.neN {H : Hp} {p c q : Addr} {n : Nat} (h : Pen H p c n) (e : H q = none) : q ≠ p := by
  obtain ⟨ns, t, r, h1, _⟩ := h
  exact (ne_of_none h1 e).symm
theorem Pen.neC {H : Hp} {p c q : Addr} {n : Nat} (h : Pen H p c n) (e : H q = none) : q ≠ c := by
  obtain ⟨ns, t, r, _, h2, _⟩ := h
  exact (ne_of_none h2 e).symm
theorem Pen.new {H : Hp} {p c q : Addr} {n : Nat} {o : HO} (h : Pen H p c n) (hq : H q = none) : Pen (upd H q o) p c n := h.same (Same.new (Same.refl H) hq)
theorem Pen.sb {H H' : Hp} {p c q : Addr} {n : Nat} (h : Pen H p c n) (s : Sb q H H') (hp : q ≠ p) (hc : q ≠ c) : Pen H' p c n := by
  obtain ⟨ns, t, r, h1, h2, h3⟩ := h
  exact ⟨ns, t, r, s _ _ (Ne.symm hp) h1, s _ _ (Ne.symm hc) h2, h3⟩
/-- an object that is neither the pen nor its cells changes -/
theorem Pen.upd {H : Hp} {p c q : Addr} {n : Nat} {o : HO} (h : Pen H p c n) (hp : q ≠ p) (hc : q ≠ c) : Pen (L2.upd H q o) p c n := by
  obtain ⟨ns, t, r, h1, h2, h3⟩ := h
  exact ⟨ns, t, r, upd_keep h1 (Ne.symm hp), upd_keep h2 (Ne.symm hc), h3⟩
theorem at_in {α : Type} {xs : List α} {i : Int} (h0 : 0 ≤ i) (h1 : i < xs.length) : ∃ v, v ∈ xs ∧ atI xs i = some v := by
  obtain ⟨j, rfl⟩ := Int.eq_ofNat_of_zero_le h0
  have hj : j < xs.length := by omega
  exact ⟨xs[j], List.getElem_mem hj, atI_nat (List.getElem?_eq_getElem hj)⟩
theorem at_mod {α : Type} {xs : List α} (i : Int) (h : 0 < xs.length) : ∃ v, v ∈ xs ∧ atI xs (i % (xs.length : Nat)) = some v :=
  at_in (Int.emod_nonneg i (by omega)) (Int.emod_lt_of_pos i (by omega))
def primes : List V := [.int 2147483647, .int 2147483629, .int 2147483587, .int 2147483579, .int 2147483563]
theorem at_prime (i : Int) : ∃ q : Int, atI [V.int 2147483647, .int 2147483629, .int 2147483587, .int 2147483579, .int 2147483563] (i % 5) = some (.int q) ∧ 0 < q ∧ q ≤ 2147483647 := by
  obtain ⟨v, h, e⟩ := at_mod (xs := primes) i (by decide)
  have z : v = .int 2147483647 ∨ v = .int 2147483629 ∨ v = .int 2147483587 ∨ v = .int 2147483579 ∨ v = .int 2147483563 := by simpa [primes] using h
  rcases z with rfl | rfl | rfl | rfl | rfl <;> exact ⟨_, e, by decide, by decide⟩
theorem perm_cons_erase {α : Type} : ∀ {l : List α} {i : Nat} (h : i < l.length), (l[i] :: l.eraseIdx i).Perm l
  | a :: l, 0, _ => List.Perm.refl _
  | a :: l, i + 1, h => by
    have h' : i < l.length := by simpa using h
    have e : (a :: l).eraseIdx (i + 1) = a :: l.eraseIdx i := rfl
    rw [e]
    show (l[i] :: a :: l.eraseIdx i).Perm (a :: l)
    exact (List.Perm.swap _ _ _).trans (List.Perm.cons _ (perm_cons_erase h'))
theorem cutV_to {xs : List V} {k : Int} (h : 0 ≤ k) : cutV xs none (some k) = xs.take k.toNat := by
  unfold cutV HT.sIx
  simp only [if_neg (show ¬ k < 0 by omega)]
  rw [List.drop_zero, Nat.sub_zero]
  rcases Nat.le_total k.toNat xs.length with h1 | h1
  · rw [Nat.min_eq_left h1]
  · rw [Nat.min_eq_right h1, List.take_of_length_le (Nat.le_refl _), List.take_of_length_le h1]
theorem cutV_from {xs : List V} {k : Int} (h : 0 ≤ k) : cutV xs (some k) none = xs.drop k.toNat := by
  unfold cutV HT.sIx
  simp only [if_neg (show ¬ k < 0 by omega)]
  rcases Nat.le_total k.toNat xs.length with h1 | h1
  · rw [Nat.min_eq_left h1, List.take_of_length_le (by simp)]
  · rw [Nat.min_eq_right h1, List.drop_of_length_le (Nat.le_refl _), List.drop_of_length_le h1, List.take_nil]
theorem cutV_mid {xs : List V} (h : 2 ≤ xs.length) : cutV xs (some 1) (some (-1)) = (xs.drop 1).dropLast := by
  unfold cutV HT.sIx
  simp only [if_neg (show ¬ (1 : Int) < 0 by decide), if_pos (show (-1 : Int) < 0 by decide)]
  rw [List.dropLast_eq_take, List.length_drop]
  have e1 : min (1 : Int).toNat xs.length = 1 := by
    show min 1 xs.length = 1
    omega
  rw [e1]
  congr 1
  omega
/-! ### names -/
def Lt (z : Str) : Prop := ∀ c ∈ z.cps.toList, 97 ≤ c ∧ c ≤ 122
def Nm (z : Str) : Prop := 1 ≤ z.length ∧ z.length ≤ 8 ∧ Lt z
theorem len_app (a b : Str) : (a ++ b).length = a.length + b.length := by
  show (a.cps ++ b.cps).size = _
  rw [Array.size_append]
  rfl
theorem Lt.app {a b : Str} (ha : Lt a) (hb : Lt b) : Lt (a ++ b) := by
  intro c hc
  have e : (a ++ b).cps.toList = a.cps.toList ++ b.cps.toList := by
    show (a.cps ++ b.cps).toList = _
    rw [Array.toList_append]
  rw [e, List.mem_append] at hc
  rcases hc with h | h
  · exact ha c h
  · exact hb c h
theorem Lt.cut {a : Str} (ha : Lt a) (lo hi : Option Int) : Lt (cutS a lo hi) := by
  intro c hc
  have hc' : c ∈ (a.cps.toList.drop (HT.sIx a.length 0 lo)).take (HT.sIx a.length a.length hi - HT.sIx a.length 0 lo) := by
    simpa [cutS] using hc
  exact ha c (List.mem_of_mem_drop (List.mem_of_mem_take hc'))
theorem cutS_to {z : Str} {k : Int} (h : 0 ≤ k) (h2 : k ≤ z.length) : (cutS z none (some k)).length = k.toNat := by
  show (((z.cps.toList.drop 0).take ((if k < 0 then (k + (z.length : Int)).toNat else min k.toNat z.length) - 0)).toArray).size = _
  rw [if_neg (by omega)]
  have : z.cps.toList.length = z.length := rfl
  simp only [List.drop_zero, List.size_toArray, List.length_take]
  omega
theorem cutS_from {z : Str} {k : Int} (h : 0 ≤ k) (h2 : k ≤ z.length) : (cutS z (some k) none).length = z.length - k.toNat := by
  show (((z.cps.toList.drop (if k < 0 then (k + (z.length : Int)).toNat else min k.toNat z.length)).take (z.length - (if k < 0 then (k + (z.length : Int)).toNat else min k.toNat z.length))).toArray).size = _
  rw [if_neg (by omega)]
  have : z.cps.toList.length = z.length := rfl
  simp only [List.size_toArray, List.length_take, List.length_drop]
  omega
theorem joinE (ys : List Str) : (Txt.join (Str.ofString "") ys).cps.toList = (ys.map fun z => z.cps.toList).flatten := by
  rw [TL.join_eq]
  induction ys with
  | nil => rfl
  | cons x r ih =>
    cases r with
    | nil => simp [Str.join]
    | cons y q =>
      have e : Str.join (Str.ofString "") (x :: y :: q) = x ++ (Str.ofString "") ++ Str.join (Str.ofString "") (y :: q) := rfl
      rw [e]
      have e2 : (x ++ (Str.ofString "") ++ Str.join (Str.ofString "") (y :: q)).cps.toList = x.cps.toList ++ (Str.join (Str.ofString "") (y :: q)).cps.toList := by
        show ((x.cps ++ (Str.ofString "").cps) ++ (Str.join (Str.ofString "") (y :: q)).cps).toList = _
        have e3 : (Str.ofString "").cps = #[] := by decide +kernel
        rw [e3]
        simp
      rw [e2, ih]
      rfl
/-- signs of one letter each, joined -/
theorem join_ones {ys : List Str} (h : ∀ z ∈ ys, z.length = 1 ∧ Lt z) : (Txt.join (Str.ofString "") ys).length = ys.length ∧ Lt (Txt.join (Str.ofString "") ys) := by
  have e := joinE ys
  constructor
  · have : (Txt.join (Str.ofString "") ys).length = (Txt.join (Str.ofString "") ys).cps.toList.length := rfl
    rw [this, e]
    clear this e
    induction ys with
    | nil => rfl
    | cons x r ih =>
      have h1 := (h x List.mem_cons_self).1
      have h2 : x.cps.toList.length = 1 := h1
      rw [List.map_cons, List.flatten_cons, List.length_append, ih (fun z hz => h z (List.mem_cons_of_mem _ hz)), h2, List.length_cons]
      omega
  · intro c hc
    rw [e, List.mem_flatten] at hc
    obtain ⟨l, hl, hc⟩ := hc
    obtain ⟨z, hz, rfl⟩ := List.mem_map.mp hl
    exact (h z hz).2 c hc
theorem sum_ones {ys : List Str} (h : ∀ z ∈ ys, z.length = 1 ∧ Lt z) : (ys.map (·.length)).sum = ys.length := by
  induction ys with
  | nil => rfl
  | cons x r ih =>
    rw [List.map_cons, List.sum_cons, ih (fun z hz => h z (List.mem_cons_of_mem _ hz)), (h x List.mem_cons_self).1, List.length_cons]
    omega
def words1 : List Str := ["room", "door", "house", "first", "left", "right", "odd", "at", "do", "wall"]
def words2 : List Str := ["ever", "never", "leap", "go", "back", "on", "a", "b"]
theorem words_ok : ∀ z ∈ words1 ++ words2, Nm z := by
  unfold Nm Lt
  decide +kernel
theorem letters_ok : Lt "abcdefghijklmnopqrstuvwxyz" := by
  unfold Lt
  decide +kernel
theorem letters_len : (Str.ofString "abcdefghijklmnopqrstuvwxyz").length = 26 := by decide +kernel
theorem at_two {a b i : Int} (h0 : 0 ≤ i) (h1 : i < 2) : ∃ x, atI [V.int a, V.int b] i = some (.int x) ∧ (x = a ∨ x = b) := by
  have : i = 0 ∨ i = 1 := by omega
  rcases this with rfl | rfl
  · exact ⟨a, rfl, .inl rfl⟩
  · exact ⟨b, rfl, .inr rfl⟩
theorem lenL (z : Str) : z.cps.toList.length = z.length := rfl
theorem len1 (c : Nat) : (⟨#[c]⟩ : Str).length = 1 := rfl
theorem Lt.one {c : Nat} (h : 97 ≤ c ∧ c ≤ 122) : Lt ⟨#[c]⟩ := by
  intro y hy
  have : y = c := by simpa using hy
  rw [this]
  exact h
theorem small16 {n : Nat} (h : n ≤ 1000) : n ≤ sizeLine := by rw [sizeLine_eq]; omega
end LH
end
section
set_option maxRecDepth 100000
set_option maxHeartbeats 4000000
namespace LH
open PySem L2
/-! ### named readings -/
def rBl (x : V) (f : Bool → Prop) : Prop := ∃ k, x = .bl k ∧ f k
def rPt (x : V) (f : Option Int → Prop) : Prop := ∃ i, x = .int i ∧ f (some i)
def rDGet (x y : V) (H : Hp) (f : V → Prop) : Prop := ∃ a v, x = .ref a ∧ DGet H a y (some v) ∧ f v
def rDPut (x y v : V) (H : Hp) (f : Hp → Prop) : Prop := ∃ a H4, x = .ref a ∧ DPut H a y v H4 ∧ f H4
def rFldR (K : PySem.W.Frag) (x : V) (n : Str) (H : Hp) (f : V → Prop) : Prop := ∃ a C dx fs v, x = .ref a ∧ H a = some (.ins C dx fs) ∧ Cls K C ∧ NoAttr K C n ∧ fs.lookup n = some v ∧ f v
def rFldS (K : PySem.W.Frag) (x y : V) (n : Str) (H : Hp) (f : Hp → Prop) : Prop := ∃ a C dx fs, x = .ref a ∧ H a = some (.ins C dx fs) ∧ Cls K C ∧ NoAttr K C n ∧ fs.length < 1000 ∧ f (upd H a (.ins C dx (putF n y fs)))
def rPr (vs : List V) (f : V → V → Prop) : Prop := ∃ v w, vs = [v, w] ∧ f v w
def rTy (K : PySem.W.Frag) (T : String) (x : V) (H : Hp) (R : Prop) : Prop := tyV K T x H ∧ R
def rMkL (xs : List V) (H : Hp) (f : Addr → Hp → Prop) : Prop := xs.length ≤ sizeLine ∧ ∀ p, H p = none → f p (upd H p (.lst xs))
def rMkT (xs : List V) (H : Hp) (f : Addr → Hp → Prop) : Prop := xs.length ≤ sizeLine ∧ ∀ p, H p = none → f p (upd H p (.tup xs))
def rDs (p : Addr) (ps : List (V × V)) (H : Hp) (f : Hp → Prop) : Prop := H p = some (.dK []) ∧ ∃ kvs : List (Key × V), ps = kvs.map (fun kv => (kV kv.1, kv.2)) ∧ kvs.length ≤ 15 ∧ f (upd H p (.dK (mergeK [] kvs)))
def rNew (H : Hp) (f : Addr → Prop) : Prop := ∀ p, H p = none → f p
/-- a new object o, then f -/
def rNO (H : Hp) (o : HO) (f : Addr → Hp → Prop) : Prop := ∀ p, H p = none → f p (upd H p o)
theorem s_nu {H : Hp} {o : HO} {f : Addr → Hp → Prop} (q : ∀ p, H p = none → f p (upd H p o)) : rNO H o f := q
theorem s_no {H : Hp} {o : HO} {f : Addr → Hp → Prop} (q : ∀ p H', H p = none → Same H H' → H' p = some o → f p H') : rNO H o f := fun p hp => q p _ hp (Same.new (Same.refl H) hp) upd_same
/-- the object at l becomes o, then f -/
def rMu (H : Hp) (l : Addr) (o : HO) (f : Hp → Prop) : Prop := f (upd H l o)
theorem s_mu {H : Hp} {l : Addr} {o : HO} {f : Hp → Prop} (q : ∀ H', Sb l H H' → H' l = some o → f H') : rMu H l o f := q _ ((Sb.refl l H).pen) upd_same
theorem s_muU {H : Hp} {l : Addr} {o : HO} {f : Hp → Prop} (q : f (upd H l o)) : rMu H l o f := q
def rTr (K : PySem.W.Frag) (x : V) (H : Hp) (f : Bool → Prop) : Prop := ∃ k, TruV K x H k ∧ f k
def rStr (x : V) (R : Prop) : Prop := (∃ a, x = .str a) ∧ R
/-! ### built-ins by named readings -/
def rLenL (K : PySem.W.Frag) : List V → Hp → VK → Prop := fun xs H Q => ∃ p ys, xs = [.ref p] ∧ (SqL K H p ys ∨ SqT K H p ys) ∧ Q (.int ys.length) H
def rLenZ : List V → Hp → VK → Prop := fun xs H Q => ∃ z : Str, xs = [.str z] ∧ z.length ≤ sizeLine ∧ Q (.int z.length) H
def rAbs : List V → Hp → VK → Prop := fun xs H Q => ∃ i, xs = [.int i] ∧ Q (.int (if i < 0 then -i else i)) H
def rLstOf (K : PySem.W.Frag) : List V → Hp → VK → Prop := fun xs H Q => ∃ p ys, xs = [.ref p] ∧ (SqL K H p ys ∨ SqT K H p ys) ∧ ∀ l, H l = none → Q (.ref l) (upd H l (.lst ys))
def rTupOf (K : PySem.W.Frag) : List V → Hp → VK → Prop := fun xs H Q => ∃ p ys, xs = [.ref p] ∧ ((SqL K H p ys ∧ ∀ l, H l = none → Q (.ref l) (upd H l (.tup ys))) ∨ (SqT K H p ys ∧ Q (.ref p) H))
def rStrS : List V → Hp → VK → Prop := fun xs H Q => ∃ a, xs = [.str a] ∧ Q (.str a) H
def rInt1 : List V → Hp → VK → Prop := fun xs H Q => ∃ i, xs = [.int i] ∧ Q (.int i) H
def rIntB : List V → Hp → VK → Prop := fun xs H Q => ∃ b, xs = [.bl b] ∧ Q (.int (if b then 1 else 0)) H
def rAddS : R2 := fun x y H Q => ∃ i j, x = .str i ∧ y = .str j ∧ i.length + j.length ≤ sizeLine ∧ Q (.str (i ++ j)) H
section
variable {X : Cx}
theorem call_lenL : CallR X (.builtin "len") (rLenL X.K) := call_len_seq
theorem call_absI : CallR X (.builtin "abs") rAbs := call_abs
theorem call_lstOf : CallR X (.type "list") (rLstOf X.K) := call_list_of
theorem call_tupOf : CallR X (.type "tuple") (rTupOf X.K) := call_tuple_of
theorem call_strS : CallR X (.type "str") rStrS := SkE.call_str_str
theorem call_lenDR : CallR X (.builtin "len") (fun xs H Q => ∃ a kvs, xs = [V.ref a] ∧ Rd H a (.dK kvs) ∧ Q (.int kvs.length) H) := fun pins s σ H xs us Q I r ⟨a, kvs, e, ha, q⟩ => by
  subst e
  cases r with | cons r t => cases t; cases r; exact d_len I ha fun t s' I' => ⟨.int kvs.length, H, I', ⟨t, rfl⟩, q⟩
theorem call_lenZ : CallR X (.builtin "len") rLenZ := fun pins s σ H xs us Q I r ⟨z, e, l, q⟩ => call_len pins s σ H xs us Q I r ⟨.str z, z.length, e, ⟨l, rfl⟩, q⟩
theorem ix_listK {K : PySem.W.Frag} (h : X.K = K) : IxR X (rIxL K) := h ▸ ix_list
theorem ix_tupK {K : PySem.W.Frag} (h : X.K = K) : IxR X (rIxT K) := h ▸ ix_tup
theorem call_lenLK {K : PySem.W.Frag} (h : X.K = K) : CallR X (.builtin "len") (rLenL K) := h ▸ call_lenL
theorem sl_listK {K : PySem.W.Frag} (h : X.K = K) : SlR X (rSlL K) := h ▸ sl_list
theorem op_addS : OpR X (binaryOp .Add) rAddS := op_add_str
end
def rNeL (K : PySem.W.Frag) : R2 := fun x y H Q => ∃ a b xs ys, x = .ref a ∧ y = .ref b ∧ SqL K H a xs ∧ SqL K H b ys ∧ (xs = [] ∨ ys = []) ∧ Q (.bl (!decide (xs.length = ys.length))) H
def rEqL (K : PySem.W.Frag) : R2 := fun x y H Q => ∃ a b xs ys, x = .ref a ∧ y = .ref b ∧ SqL K H a xs ∧ SqL K H b ys ∧ (xs = [] ∨ ys = []) ∧ Q (.bl (decide (xs.length = ys.length))) H
section
variable {X : Cx}
theorem isL_of {h : Heap} {a : Addr} {its : Array Value} (p : PlainL h a its) : h.IsList a its := by
  obtain ⟨o, m, e, c, d, q⟩ := p
  exact ⟨o, e, c, m, q⟩
theorem op_neNil (hu : X.A.units < cLine) : OpR X (compareOp .NotEq) (rNeL X.K) := by
  intro pins s σ H x y v u Q I rx ry h
  obtain ⟨a, b, xs, ys, rfl, rfl, ha, hb, h0, q⟩ := h
  cases rx
  cases ry
  obtain ⟨i1, r1, p1, z1⟩ := I.list ha
  obtain ⟨i2, r2, p2, z2⟩ := I.list hb
  have e1 := r1.length
  have e2 := r2.length
  by_cases c : xs.length = ys.length
  · have x0 : xs.length = 0 := by
      rcases h0 with z | z
      · rw [z]; rfl
      · rw [c, z]; rfl
    have this : i1.toArray.size = 0 := by rw [List.size_toArray]; omega
    refine SeqAt.RcNeAt.lists (e := fun _ => true) (isL_of p1) (isL_of p2) (by simp; omega) hu (fun j h1 h2 => absurd h1 (by rw [this]; exact Nat.not_lt_zero _)) _ _ _ _ ?_
    refine ⟨.bl _, H, I, ?_, q⟩
    rw [decide_eq_true c]
    show Value.bool _ = Value.bool _
    rw [this]
    rfl
  · refine SeqAt.RcNeAt.lists_lengths (isL_of p1) (isL_of p2) (by simp; omega) hu _ _ _ _ ?_
    refine ⟨.bl _, H, I, ?_, q⟩
    rw [decide_eq_false c]
    rfl
theorem op_eqNil (hu : X.A.units < cLine) : OpR X (compareOp .Eq) (rEqL X.K) := by
  intro pins s σ H x y v u Q I rx ry h
  obtain ⟨a, b, xs, ys, rfl, rfl, ha, hb, h0, q⟩ := h
  cases rx
  cases ry
  obtain ⟨i1, r1, p1, z1⟩ := I.list ha
  obtain ⟨i2, r2, p2, z2⟩ := I.list hb
  have e1 := r1.length
  have e2 := r2.length
  by_cases c : xs.length = ys.length
  · have x0 : xs.length = 0 := by
      rcases h0 with z | z
      · rw [z]; rfl
      · rw [c, z]; rfl
    have this : i1.toArray.size = 0 := by rw [List.size_toArray]; omega
    refine SeqAt.eq_listAt (e := fun _ => true) (isL_of p1) (isL_of p2) (by simp; omega) hu (fun j h1 h2 => absurd h1 (by rw [this]; exact Nat.not_lt_zero _)) ?_
    refine ⟨.bl _, H, I, ?_, q⟩
    rw [decide_eq_true c]
    show Value.bool _ = Value.bool _
    rw [this]
    rfl
  · refine SeqAt.eq_list_lengthsAt (isL_of p1) (isL_of p2) (by simp; omega) hu ?_
    refine ⟨.bl _, H, I, ?_, q⟩
    rw [decide_eq_false c]
    rfl
end
theorem s_neL {K : PySem.W.Frag} {H : Hp} {Q : VK} {a b : Addr} {xs ys : List V} (ha : SqL K H a xs) (hb : SqL K H b ys) (h0 : xs = [] ∨ ys = []) (q : Q (.bl (!decide (xs.length = ys.length))) H) : rNeL K (.ref a) (.ref b) H Q := ⟨a, b, xs, ys, rfl, rfl, ha, hb, h0, q⟩
theorem s_eqL {K : PySem.W.Frag} {H : Hp} {Q : VK} {a b : Addr} {xs ys : List V} (ha : SqL K H a xs) (hb : SqL K H b ys) (h0 : xs = [] ∨ ys = []) (q : Q (.bl (decide (xs.length = ys.length))) H) : rEqL K (.ref a) (.ref b) H Q := ⟨a, b, xs, ys, rfl, rfl, ha, hb, h0, q⟩
section
variable {σ σ' : St} {H : Hp} {Q : VK} {D : Ends} {K : PySem.W.Frag}
theorem s_var {i : Nat} {v : V} (h : σ[i]? = some (some v)) (q : Q v H) : tVar i σ H Q := ⟨v, h, q⟩
theorem s_c {v : V} (q : Q v H) : tC v σ H Q := q
theorem s_op {r : R2} {ta tb : TE} (q : ta σ H fun x H1 => tb σ H1 fun y H2 => r x y H2 Q) : tOp r ta tb σ H Q := q
theorem s_un {r : V → Hp → VK → Prop} {ta : TE} (q : ta σ H fun x H1 => r x H1 Q) : tUn r ta σ H Q := q
theorem s_I0 {g : Int → Int → V} {i j : Int} (q : Q (g i j) H) : rI0 g (.int i) (.int j) H Q := ⟨i, j, rfl, rfl, q⟩
theorem s_I {C : Int → Int → Prop} {g : Int → Int → V} {i j : Int} (c : C i j) (q : Q (g i j) H) : rI C g (.int i) (.int j) H Q := ⟨i, j, rfl, rfl, c, q⟩
theorem s_rU {g : Int → V} {i : Int} (q : Q (g i) H) : rU g (.int i) H Q := ⟨i, rfl, q⟩
theorem s_test {t : TE} {Q : Bool → Hp → Prop} (q : t σ H fun x H' => rBl x fun k => Q k H') : tTest t σ H Q := q
theorem s_B {t : TE} {Q : Bool → Hp → Prop} (q : t σ H fun x H' => rBl x fun k => Q k H') : tB t σ H Q := q
theorem s_bl {b : Bool} {Q : Bool → Prop} (q : Q b) : rBl (.bl b) Q := ⟨b, rfl, q⟩
theorem s_seq {t u : TS} (q : t { D with nx := u D } σ H) : tSeq t u D σ H := q
theorem s_cut {t u : TS} (Mid : St → Hp → Prop) (m : t { D with nx := Mid } σ H) (q : ∀ σ' H', Mid σ' H' → u D σ' H') : Evl.tCut t u D σ H := ⟨Mid, m, q⟩
theorem s_next (q : D.nx σ H) : tNext D σ H := q
theorem s_asg {te : TE} {i : Nat} (q : te σ H fun x H1 => D.nx (σ.set i (some x)) H1) : tAsg te (gName i) D σ H := q
theorem s_asgT {te : TE} {g : TG} (q : te σ H fun x H1 => g x σ H1 D.nx) : tAsg te g D σ H := q
theorem s_gName {i : Nat} {v : V} {Q : St → Hp → Prop} (q : Q (σ.set i (some v)) H) : gName i v σ H Q := q
theorem s_gNil {Q : St → Hp → Prop} (q : Q σ H) : gNil [] σ H Q := ⟨rfl, q⟩
theorem s_gCons {t : TG} {u : TGs} {v : V} {r : List V} {Q : St → Hp → Prop} (q : t v σ H fun σ' H' => u r σ' H' Q) : gCons t u (v :: r) σ H Q := ⟨v, r, rfl, q⟩
theorem s_gTup {n : Nat} {t : TGs} {a : Addr} {xs : List V} {Q : St → Hp → Prop} (h : SqT K H a xs) (l : xs.length = n) (q : t xs σ H Q) : gTup K n t (.ref a) σ H Q := ⟨a, xs, rfl, h, l, q⟩
theorem s_par {i j : Nat} {ta : TA} (q : ta σ H fun vs H1 => rPr vs fun v w => D.nx ((σ.set i (some v)).set j (some w)) H1) : tPar i j ta D σ H := q
theorem s_pair {v w : V} {Q : V → V → Prop} (q : Q v w) : rPr [v, w] Q := ⟨v, w, rfl, q⟩
def rTri (vs : List V) (f : V → V → V → Prop) : Prop := ∃ v w u, vs = [v, w, u] ∧ f v w u
theorem s_par3 {i j l : Nat} {ta : TA} (q : ta σ H fun vs H1 => rTri vs fun v w u => D.nx (((σ.set i (some v)).set j (some w)).set l (some u)) H1) : tPar3 i j l ta D σ H := q
theorem s_tri {v w u : V} {Q : V → V → V → Prop} (q : Q v w u) : rTri [v, w, u] Q := ⟨v, w, u, rfl, q⟩
theorem s_ret {te : TE} (q : te σ H D.rt) : tRet te D σ H := q
theorem s_retN (q : D.rt .non H) : tRetN D σ H := q
theorem s_drop {te : TE} (q : te σ H fun _ H1 => D.nx σ H1) : tDrop te D σ H := q
theorem s_ifS {c : TT} {t u : TS} (q : c σ H fun b H1 => if b = true then t D σ H1 else u D σ H1) : tIfS c t u D σ H := q
theorem s_if {c : TT} {ta tb : TE} (q : c σ H fun b H1 => if b = true then ta σ H1 Q else tb σ H1 Q) : tIf c ta tb σ H Q := q
theorem s_and {t u : TT} {Q : Bool → Hp → Prop} (q : t σ H fun c H1 => if c = true then u σ H1 Q else Q false H1) : tAnd t u σ H Q := q
theorem s_or {t u : TT} {Q : Bool → Hp → Prop} (q : t σ H fun c H1 => if c = true then Q true H1 else u σ H1 Q) : tOr t u σ H Q := q
theorem s_not {t : TT} {Q : Bool → Hp → Prop} (q : t σ H fun c H1 => Q (!c) H1) : tNot t σ H Q := q
theorem s_yes {Q : Bool → Hp → Prop} (q : Q true H) : tYes σ H Q := q
theorem s_andV {ta tb : TE} (q : ta σ H fun x H1 => rBl x fun c => if c = true then tb σ H1 Q else Q (.bl false) H1) : tAndV ta tb σ H Q := q
theorem s_orV {ta tb : TE} (q : ta σ H fun x H1 => rBl x fun c => if c = true then Q (.bl true) H1 else tb σ H1 Q) : tOrV ta tb σ H Q := q
theorem s_notV {ta : TE} (q : ta σ H fun x H1 => rBl x fun c => Q (.bl (!c)) H1) : tNotV ta σ H Q := q
theorem s_chain {r r' : R2} {ta tb tc : TE} (q : ta σ H fun x H1 => tb σ H1 fun y H2 => r x y H2 fun z H3 => rBl z fun k => (if k = true then tc σ H3 fun w' H4 => r' y w' H4 Q else Q (.bl false) H3)) : tChain r r' ta tb tc σ H Q := q
theorem s_itT {A B : Prop} (q : A) : if true = true then A else B := iteT q
theorem s_itF {A B : Prop} (q : B) : if false = true then A else B := iteF q
/-- dicts -/
theorem s_dget {td ty : TE} (q : td σ H fun x H1 => ty σ H1 fun y H2 => rDGet x y H2 fun v => Q v H2) : tDGet td ty σ H Q := q
theorem s_dgetS {a : Addr} {k : Str} {kvs : List (Key × V)} {v : V} {Q : V → Prop} (h : H a = some (.dK kvs)) (e : valV kvs (.inr k) = some v) (q : Q v) : rDGet (.ref a) (.str k) H Q :=
  ⟨a, v, rfl, by rw [← e]; exact DGet.k (k := Sum.inr k) h, q⟩
theorem s_dput {td ty tv : TE} (q : tv σ H fun v H1 => td σ H1 fun x H2 => ty σ H2 fun y H3 => rDPut x y v H3 fun H4 => D.nx σ H4) : sDPut td ty tv D σ H := q
theorem s_dputS {a : Addr} {k : Str} {v : V} {kvs kvs' : List (Key × V)} {Q : Hp → Prop} (h : H a = some (.dK kvs)) (e : putK kvs (.inr k) v = kvs') (l : kvs.length < sizeLine) (q : rMu H a (.dK kvs') Q) : rDPut (.ref a) (.str k) v H Q :=
  ⟨a, upd H a (.dK kvs'), rfl, by rw [← e]; exact DPut.k (k := Sum.inr k) h l, q⟩
theorem s_disp {trs : List (TE × TE)} (q : rNO H (.dK []) fun p H1 => tPairs trs σ H1 fun ps H2 => rDs p ps H2 fun H3 => Q (.ref p) H3) : tDisp trs σ H Q := q
theorem s_ds {p : Addr} {ps : List (V × V)} {kvs kvs' : List (Key × V)} {f : Hp → Prop} (h : H p = some (.dK [])) (e : ps = kvs.map (fun kv => (kV kv.1, kv.2))) (l : kvs.length ≤ 15) (m : mergeK [] kvs = kvs') (q : rMu H p (.dK kvs') f) : rDs p ps H f := ⟨h, kvs, e, l, by rw [m]; exact q⟩
theorem s_dnew (q : rNO H (.dK []) fun p H' => Q (.ref p) H') : tDNewK σ H Q := q
theorem s_new {f : Addr → Prop} (q : ∀ p, H p = none → f p) : rNew H f := q
theorem s_pnil {Q : List (V × V) → Hp → Prop} (q : Q [] H) : tPairs [] σ H Q := q
theorem s_pcons {tk tv : TE} {r : List (TE × TE)} {Q : List (V × V) → Hp → Prop} (q : tk σ H fun x H1 => tv σ H1 fun y H2 => tPairs r σ H2 fun ps H3 => Q ((x, y) :: ps) H3) : tPairs ((tk, tv) :: r) σ H Q := q
/-- lists, tuples, arguments -/
theorem s_lst {t : TA} (q : t σ H fun xs H1 => rMkL xs H1 fun p H2 => Q (.ref p) H2) : tLst t σ H Q := q
theorem s_tup {t : TA} (q : t σ H fun xs H1 => rMkT xs H1 fun p H2 => Q (.ref p) H2) : tTup t σ H Q := q
theorem s_mkL {xs : List V} {f : Addr → Hp → Prop} (l : xs.length ≤ 1000) (q : rNO H (.lst xs) f) : rMkL xs H f := ⟨Nat.le_of_lt (small1000 l), q⟩
theorem s_mkT {xs : List V} {f : Addr → Hp → Prop} (l : xs.length ≤ 1000) (q : rNO H (.tup xs) f) : rMkT xs H f := ⟨Nat.le_of_lt (small1000 l), q⟩
theorem s_nil {Q : List V → Hp → Prop} (q : Q [] H) : tNil σ H Q := q
theorem s_cons {ta : TE} {tr : TA} {Q : List V → Hp → Prop} (q : ta σ H fun x H1 => tr σ H1 fun xs H2 => Q (x :: xs) H2) : tCons ta tr σ H Q := q
theorem s_CB {r : List V → Hp → VK → Prop} {t : TA} (q : t σ H fun vs H1 => r vs H1 Q) : tCB r t σ H Q := q
theorem s_call {sp : Sp} {E : XK} {t : TA} (q : t σ H fun vs H1 => sp vs H1 Q E) (m : ∀ f g : List V → Hp → Prop, (∀ vs H', f vs H' → g vs H') → t σ H f → t σ H g) : tCall sp [] E t σ H Q := m _ _ (fun vs H' z => by rw [List.append_nil]; exact z) q
theorem s_call1 {sp : Sp} {E : XK} {t : TA} (q : t σ H fun vs H1 => sp (vs ++ []) H1 Q E) : tCall sp [] E t σ H Q := q
theorem s_meth {C : Addr} {m : Str} {sp : Sp} {E : XK} {ta : TE} {t : TA} {P : Addr → Addr → List (Str × V) → Prop} (q : ta σ H fun x H1 => ∃ a dx fs, x = .ref a ∧ H1 a = some (.ins C dx fs) ∧ fs.lookup m = none ∧ t σ H1 fun vs H2 => sp (x :: (vs ++ [])) H2 Q E) : tMeth C m sp [] E ta t σ H Q := q
theorem s_lenL {p : Addr} {ys : List V} (h : SqL K H p ys ∨ SqT K H p ys) (q : Q (.int ys.length) H) : rLenL K [.ref p] H Q := ⟨p, ys, rfl, h, q⟩
theorem s_lenZ {z : Str} (h : z.length ≤ sizeLine) (q : Q (.int z.length) H) : rLenZ [.str z] H Q := ⟨z, rfl, h, q⟩
theorem s_lstOf {p : Addr} {ys : List V} (h : SqL K H p ys ∨ SqT K H p ys) (q : rNO H (.lst ys) fun l H' => Q (.ref l) H') : rLstOf K [.ref p] H Q := ⟨p, ys, rfl, h, q⟩
theorem s_tupOfL {p : Addr} {ys : List V} (h : SqL K H p ys) (q : rNO H (.tup ys) fun l H' => Q (.ref l) H') : rTupOf K [.ref p] H Q := ⟨p, ys, rfl, .inl ⟨h, q⟩⟩
theorem s_strS {z : Str} (q : Q (.str z) H) : rStrS [.str z] H Q := ⟨z, rfl, q⟩
theorem s_addS {i j : Str} (l : i.length + j.length ≤ sizeLine) (q : Q (.str (i ++ j)) H) : rAddS (.str i) (.str j) H Q := ⟨i, j, rfl, rfl, l, q⟩
theorem s_abs {i : Int} (q : Q (.int (if i < 0 then -i else i)) H) : rAbs [.int i] H Q := ⟨i, rfl, q⟩
theorem s_ixL {p : Addr} {xs : List V} {i : Int} {v : V} (h : SqL K H p xs) (e : atI xs i = some v) (q : Q v H) : rIxL K (.ref p) (.int i) H Q := ⟨p, xs, i, v, rfl, rfl, h, e, q⟩
theorem s_ixT {p : Addr} {xs : List V} {i : Int} {v : V} (h : SqT K H p xs) (e : atI xs i = some v) (q : Q v H) : rIxT K (.ref p) (.int i) H Q := ⟨p, xs, i, v, rfl, rfl, h, e, q⟩
theorem s_ixS {z : Str} {i : Int} {c : Nat} (h : z.length ≤ sizeLine) (e : atI z.cps.toList i = some c) (q : Q (.str ⟨#[c]⟩) H) : rIxS (.str z) (.int i) H Q := ⟨z, i, c, rfl, rfl, h, e, q⟩
theorem s_sl {r : V → Option Int → Option Int → Hp → VK → Prop} {te : TE} {tl th : TO} (q : te σ H fun x H1 => tl σ H1 fun l H2 => th σ H2 fun u H3 => r x l u H3 Q) : tSl r te tl th σ H Q := q
theorem s_noPart {Q : Option Int → Hp → Prop} (q : Q none H) : tNoPart σ H Q := q
theorem s_part {t : TE} {Q : Option Int → Hp → Prop} (q : t σ H fun x H1 => rPt x fun i => Q i H1) : tPart t σ H Q := q
theorem s_pt {i : Int} {Q : Option Int → Prop} (q : Q (some i)) : rPt (.int i) Q := ⟨i, rfl, q⟩
theorem s_slL {p : Addr} {xs : List V} {lo hi : Option Int} (h : SqL K H p xs) (q : rNO H (.lst (cutV xs lo hi)) fun l H' => Q (.ref l) H') : rSlL K (.ref p) lo hi H Q := ⟨p, xs, rfl, h, q⟩
theorem s_slS {z : Str} {lo hi : Option Int} (h : z.length ≤ sizeLine) (q : Q (.str (cutS z lo hi)) H) : rSlS (.str z) lo hi H Q := ⟨z, rfl, h, q⟩
theorem s_cat {l b : Addr} {xs zs : List V} (h : H l = some (.lst xs)) (h2 : H b = some (.lst zs)) (hz : xs.length + zs.length ≤ 1000) (q : rNO H (.lst (xs ++ zs)) fun p H' => Q (.ref p) H') : rCat (.ref l) (.ref b) H Q :=
  ⟨l, b, xs, zs, rfl, rfl, h, h2, Nat.le_of_lt (small1000 hz), q⟩
theorem s_bm {T : String} {r : V → List V → Hp → VK → Prop} {to : TE} {t : TA} (q : to σ H fun x H1 => rTy K T x H1 (t σ H1 fun xs H2 => r x xs H2 Q)) : tBM K T r to t σ H Q := q
theorem s_bm0 {T : String} {r : V → List V → Hp → VK → Prop} {to : TE} (q : to σ H fun x H1 => rTy K T x H1 (r x [] H1 Q)) : tBM0 K T r to σ H Q := q
theorem s_tyL {p : Addr} {xs : List V} {R : Prop} (h : SqL K H p xs) (q : R) : rTy K "list" (.ref p) H R := ⟨.inl ⟨rfl, xs, h⟩, q⟩
theorem s_append {l : Addr} {xs : List V} {y : V} (h : H l = some (.lst xs)) (hz : xs.length < sizeLine) (q : rMu H l (.lst (xs ++ [y])) fun H' => Q .non H') : rAppend (.ref l) [y] H Q := ⟨l, xs, y, rfl, rfl, h, hz, q⟩
theorem s_popAt {l : Addr} {xs : List V} {i : Int} {k : Nat} {y : V} (h : H l = some (.lst xs)) (h1 : -(2 ^ 63) ≤ i) (h2 : i < 2 ^ 63) (e : seqIndex? i xs.length = some k) (ey : xs[k]? = some y) (q : rMu H l (.lst (xs.eraseIdx k)) fun H' => Q y H') : rPopAt (.ref l) [.int i] H Q :=
  ⟨l, xs, i, k, y, rfl, rfl, h, h1, h2, e, ey, q⟩
theorem s_clear {l : Addr} {xs : List V} (h : H l = some (.lst xs)) (q : rMu H l (.lst []) fun H' => Q .non H') : rClear (.ref l) [] H Q := ⟨l, xs, rfl, rfl, h, q⟩
theorem s_reverse {l : Addr} {xs : List V} (h : H l = some (.lst xs)) (q : rMu H l (.lst xs.reverse) fun H' => Q .non H') : rReverse (.ref l) [] H Q := ⟨l, xs, rfl, rfl, h, q⟩
theorem s_eq {x y : V} {b : Bool} (c : scal x y = true) (e : decide (x = y) = b) (q : Q (.bl b) H) : rEq x y H Q := ⟨c, by rw [e]; exact q⟩
theorem s_ne {x y : V} {b : Bool} (c : scal x y = true) (e : decide (x = y) = b) (q : Q (.bl (!b)) H) : rNe x y H Q := ⟨c, by rw [e]; exact q⟩
theorem s_eqI {i j : Int} (q : Q (.bl (decide (i = j))) H) : rEq (.int i) (.int j) H Q := s_eq rfl (b := decide (i = j)) (by simp) q
theorem s_neI {i j : Int} (q : Q (.bl (!decide (i = j))) H) : rNe (.int i) (.int j) H Q := s_ne rfl (b := decide (i = j)) (by simp) q
theorem s_neS {i j : Str} (q : Q (.bl (!decide (i = j))) H) : rNe (.str i) (.str j) H Q := s_ne rfl (b := decide (i = j)) (by simp) q
theorem s_eqS {i j : Str} (q : Q (.bl (decide (i = j))) H) : rEq (.str i) (.str j) H Q := s_eq rfl (b := decide (i = j)) (by simp) q
theorem s_fld {ta : TE} {f : Str} (q : ta σ H fun x H1 => rFldR K x f H1 fun v => Q v H1) : tFld K ta f σ H Q := q
theorem s_fldV {a C dx : Addr} {fs : List (Str × V)} {f : Str} {v : V} {Q : V → Prop} (h : H a = some (.ins C dx fs)) (c : Cls K C) (n : NoAttr K C f) (e : fs.lookup f = some v) (q : Q v) : rFldR K (.ref a) f H Q := ⟨a, C, dx, fs, v, rfl, h, c, n, e, q⟩
theorem s_fldS {ta tv : TE} {f : Str} (q : tv σ H fun y H1 => ta σ H1 fun x H2 => rFldS K x y f H2 fun H3 => D.nx σ H3) : sFld K ta tv f D σ H := q
theorem s_fldW {a C dx : Addr} {fs : List (Str × V)} {f : Str} {y : V} {Q : Hp → Prop} (h : H a = some (.ins C dx fs)) (c : Cls K C) (n : NoAttr K C f) (l : fs.length < 1000) (q : rMu H a (.ins C dx (putF f y fs)) Q) : rFldS K (.ref a) y f H Q := ⟨a, C, dx, fs, rfl, h, c, n, l, q⟩
def rWt (W : Nat → St → Hp → Prop) (m : Nat) (tb : TS) (D : Ends) (σ : St) (H : Hp) : Prop := ∃ N : St → Hp → Prop, (∀ σ' H', N σ' H' → ∃ m', m' < m ∧ W m' σ' H') ∧ tb { D with nx := N, ct := N, bk := D.nx } σ H
theorem s_wt {W : Nat → St → Hp → Prop} {m : Nat} {tb : TS} (q : tb { D with nx := fun σ' H' => ∃ m', m' < m ∧ W m' σ' H', ct := fun σ' H' => ∃ m', m' < m ∧ W m' σ' H', bk := D.nx } σ H) : rWt W m tb D σ H := ⟨_, fun _ _ z => z, q⟩
theorem s_while {c : TT} {tb : TS} (W : Nat → St → Hp → Prop) (m : Nat) (h0 : W m σ H) (q : ∀ m σ H, W m σ H → c σ H fun b H1 => if b = true then rWt W m tb D σ H1 else D.nx σ H1) : tWhile c tb D σ H := ⟨W, ⟨m, h0⟩, q⟩
end
/-! ### loops and comprehensions -/
def bodyI (J : It) (g : TG) (tb : TS) (D : Ends) (σ : St) (H : Hp) : Prop := ∃ W : Nat → Nat → St → Hp → Prop, (∃ m, W 0 m σ H) ∧ ∀ i m σ H, W i m σ H →
  (J.stop i H ∧ D.nx σ H) ∨ (J.go i H ∧ ∃ N : St → Hp → Prop, (∀ σ' H', N σ' H' → ∃ m', m' < m ∧ W (i + 1) m' σ' H') ∧ ∀ x H', J.yld i H x H' → g x σ H' fun σ2 H2 => tb { D with nx := N, ct := N, bk := D.nx } σ2 H2)
def rForR (g : TG) (tb : TS) (D : Ends) (σ : St) (vs : List V) (H : Hp) : Prop := ∃ j : Int, vs = [.int j] ∧ -(2 ^ 62) ≤ j ∧ j < 2 ^ 62 ∧ bodyI (Itr 0 j.toNat) g tb D σ H
def rForL (K : PySem.W.Frag) (g : TG) (tb : TS) (D : Ends) (σ : St) (x : V) (H : Hp) : Prop := ∃ a, x = .ref a ∧ (∃ xs, SqL K H a xs) ∧ bodyI (Itl K a) g tb D σ H
section
variable {σ : St} {H : Hp} {Q : VK} {D : Ends} {K : PySem.W.Frag}
theorem s_forR {g : TG} {tb : TS} {ta : TA} (q : ta σ H fun vs H1 => rForR g tb D σ vs H1) : tFor (iRng1 ta) g tb D σ H := q
theorem s_forRI {g : TG} {tb : TS} {j : Int} (Pv : Nat → St → Hp → Prop) (b0 : 0 ≤ j) (b1 : j < 2 ^ 62) (h0 : Pv 0 σ H)
    (hs : ∀ (i : Nat) σ H, (i : Int) < j → Pv i σ H → g (.int i) σ H fun σ2 H2 => tb { D with nx := Pv (i + 1), ct := Pv (i + 1), bk := D.nx } σ2 H2) (hd : ∀ σ H, Pv j.toNat σ H → D.nx σ H) : rForR g tb D σ [.int j] H := by
  refine ⟨j, rfl, by omega, b1, for_range (lo := 0) (n := j.toNat) Pv h0 (fun i σ H hi p => ?_) hd⟩
  have := hs i σ H (by omega) p
  rw [show (0 : Int) + (i : Int) = i by omega]
  exact this
theorem s_forL {g : TG} {tb : TS} {tl : TE} (q : tl σ H fun x H1 => rForL K g tb D σ x H1) : tFor (iList K tl) g tb D σ H := q
theorem s_forLI {g : TG} {tb : TS} {a : Addr} {xs : List V} (Pv : Nat → St → Hp → Prop) (hx : SqL K H a xs) (h0 : Pv 0 σ H) (hl : ∀ i σ H, i ≤ xs.length → Pv i σ H → SqL K H a xs)
    (hs : ∀ i x σ H, xs[i]? = some x → Pv i σ H → g x σ H fun σ2 H2 => tb { D with nx := Pv (i + 1), ct := Pv (i + 1), bk := D.nx } σ2 H2) (hd : ∀ σ H, Pv xs.length σ H → D.nx σ H) : rForL K g tb D σ (.ref a) H :=
  ⟨a, rfl, ⟨xs, hx⟩, for_list Pv h0 hl hs hd⟩
end
def lcI (J : It) (g : TG) (tt : TT) (te : TE) (vs : List Nat) (σ : St) (H1 : Hp) (f : Addr → Hp → Prop) : Prop := ∀ D, H1 D = none → ∃ W : Nat → Nat → Hp → Prop, (∃ m, W 0 m (upd H1 D (.lst []))) ∧ ∀ i m H, W i m H →
  (J.stop i H ∧ f D H) ∨ (J.go i H ∧ ∃ Nx : Hp → Prop, (∀ H', Nx H' → ∃ m', m' < m ∧ W (i + 1) m' H') ∧ ∀ x H', J.yld i H x H' → g x (wipe σ vs) H' fun σ2 H2 => wipe σ2 vs = wipe σ vs ∧ tt σ2 H2 fun b H3 =>
    if b = true then te σ2 H3 fun y H4 => ∃ acc, H4 D = some (.lst acc) ∧ acc.length < sizeLine ∧ Nx (upd H4 D (.lst (acc ++ [y]))) else Nx H3)
def rLcR (g : TG) (tt : TT) (te : TE) (vs : List Nat) (σ : St) (xs : List V) (H1 : Hp) (f : Addr → Hp → Prop) : Prop := ∃ j : Int, xs = [.int j] ∧ -(2 ^ 62) ≤ j ∧ j < 2 ^ 62 ∧ lcI (Itr 0 j.toNat) g tt te vs σ H1 f
def rLcL (K : PySem.W.Frag) (g : TG) (tt : TT) (te : TE) (vs : List Nat) (σ : St) (x : V) (H1 : Hp) (f : Addr → Hp → Prop) : Prop := ∃ a, x = .ref a ∧ (∃ xs, SqL K H1 a xs) ∧ lcI (Itl K a) g tt te vs σ H1 f
def rLcT (K : PySem.W.Frag) (g : TG) (tt : TT) (te : TE) (vs : List Nat) (σ : St) (x : V) (H1 : Hp) (f : Addr → Hp → Prop) : Prop := ∃ a, x = .ref a ∧ (∃ xs, SqT K H1 a xs) ∧ lcI (Itt K a) g tt te vs σ H1 f
theorem wipe_set {σ : St} {i : Nat} {x : Option V} : wipe ((wipe σ [i]).set i x) [i] = wipe σ [i] := by
  show (((σ.set i none)).set i x).set i none = σ.set i none
  rw [List.set_set, List.set_set]
section
variable {σ : St} {H : Hp} {Q : VK} {D : Ends} {K : PySem.W.Frag}
theorem s_lcR {g : TG} {tt : TT} {te : TE} {vs : List Nat} {ta : TA} (q : ta σ H fun xs H1 => rLcR g tt te vs σ xs H1 fun D H2 => Q (.ref D) H2) : tLc (iRng1 ta) g tt te vs σ H Q := q
theorem s_lcL {g : TG} {tt : TT} {te : TE} {vs : List Nat} {tl : TE} (q : tl σ H fun x H1 => rLcL K g tt te vs σ x H1 fun D H2 => Q (.ref D) H2) : tLc (iList K tl) g tt te vs σ H Q := q
theorem s_lcT {g : TG} {tt : TT} {te : TE} {vs : List Nat} {tl : TE} (q : tl σ H fun x H1 => rLcT K g tt te vs σ x H1 fun D H2 => Q (.ref D) H2) : tLc (iTup K tl) g tt te vs σ H Q := q
end
/-- the list at D holds k items and Pv says which -/
def AccI (Pv : Nat → List V → Hp → Prop) (D : Addr) (k : Nat) (H : Hp) : Prop := ∃ acc, acc.length = k ∧ H D = some (.lst acc) ∧ Pv k acc H
def rAcc (D : Addr) (y : V) (H : Hp) (N : Hp → Prop) : Prop := ∃ acc, H D = some (.lst acc) ∧ acc.length < sizeLine ∧ N (upd H D (.lst (acc ++ [y])))
theorem s_acc {Pv : Nat → List V → Hp → Prop} {D : Addr} {k : Nat} {acc : List V} {y : V} {H : Hp} (e : H D = some (.lst acc)) (hl : acc.length = k) (hk : k < 1000000) (q : ∀ H', Sb D H H' → H' D = some (.lst (acc ++ [y])) → Pv (k + 1) (acc ++ [y]) H') : rAcc D y H (AccI Pv D (k + 1)) :=
  ⟨acc, e, by rw [sizeLine_eq]; omega, acc ++ [y], by simp [hl], upd_same, q _ ((Sb.refl D H).pen) upd_same⟩
section
variable {σ : St} {H : Hp} {K : PySem.W.Frag}
theorem yes_of {te : TE} {D : Addr} {N : Hp → Prop} (z : te σ H fun y H4 => rAcc D y H4 N) : tYes σ H fun b H3 => if b = true then te σ H3 fun y H4 => ∃ acc, H4 D = some (.lst acc) ∧ acc.length < sizeLine ∧ N (upd H4 D (.lst (acc ++ [y]))) else N H3 := by
  have w : ∀ (A B : Prop), A → (if (true : Bool) = true then A else B) := fun A B h => by rw [if_pos rfl]; exact h
  exact w _ (N H) z
theorem s_lcRI {i : Nat} {te : TE} {j : Int} {f : Addr → Hp → Prop} (Pv : Addr → Nat → List V → Hp → Prop) (b0 : 0 ≤ j) (b1 : j < 1000000) (h0 : ∀ D H', H D = none → Same H H' → H' D = some (.lst []) → Pv D 0 [] H')
    (hs : ∀ D (k : Nat) acc H', H D = none → (k : Int) < j → acc.length = k → H' D = some (.lst acc) → Pv D k acc H' → te ((wipe σ [i]).set i (some (.int k))) H' fun y H4 => rAcc D y H4 (AccI (Pv D) D (k + 1)))
    (hd : ∀ D acc H', H D = none → acc.length = j.toNat → H' D = some (.lst acc) → Pv D j.toNat acc H' → f D H') : rLcR (gName i) tYes te [i] σ [.int j] H f := by
  refine ⟨j, rfl, by omega, by omega, fun D hD => lc_range (lo := 0) (n := j.toNat) (AccI (Pv D) D) ⟨[], rfl, upd_same, h0 D _ hD (Same.new (Same.refl H) hD) upd_same⟩ ?_ ?_⟩
  · rintro k H' hk ⟨acc, hl, hA, p⟩
    have z := hs D k acc H' hD (by omega) hl hA p
    rw [show (0 : Int) + (k : Int) = k by omega]
    exact ⟨wipe_set, yes_of z⟩
  · rintro H' ⟨acc, hl, hA, p⟩
    exact hd D acc H' hD hl hA p

theorem s_lcLI {i : Nat} {te : TE} {a : Addr} {xs : List V} {f : Addr → Hp → Prop} (Pv : Addr → Nat → List V → Hp → Prop) (hx : SqL K H a xs) (h0 : ∀ D H', H D = none → Same H H' → H' D = some (.lst []) → Pv D 0 [] H') (hl : ∀ D k acc H', H D = none → Pv D k acc H' → SqL K H' a xs)
    (hs : ∀ D (k : Nat) acc x H', H D = none → xs[k]? = some x → acc.length = k → H' D = some (.lst acc) → Pv D k acc H' → te ((wipe σ [i]).set i (some x)) H' fun y H4 => rAcc D y H4 (AccI (Pv D) D (k + 1)))
    (hd : ∀ D acc H', H D = none → acc.length = xs.length → H' D = some (.lst acc) → Pv D xs.length acc H' → f D H') : rLcL K (gName i) tYes te [i] σ (.ref a) H f := by
  refine ⟨a, rfl, ⟨xs, hx⟩, fun D hD => lc_list (xs := xs) (AccI (Pv D) D) ⟨[], rfl, upd_same, h0 D _ hD (Same.new (Same.refl H) hD) upd_same⟩ (fun k H' _ p => ?_) ?_ ?_⟩
  · obtain ⟨acc, _, _, p⟩ := p
    exact hl D k acc H' hD p
  · rintro k x H' hk ⟨acc, hl, hA, p⟩
    have z := hs D k acc x H' hD hk hl hA p
    exact ⟨wipe_set, yes_of z⟩
  · rintro H' ⟨acc, hl, hA, p⟩
    exact hd D acc H' hD hl hA p
/-- over a tuple -/
theorem s_lcTI {i : Nat} {te : TE} {a : Addr} {xs : List V} {f : Addr → Hp → Prop} (Pv : Addr → Nat → List V → Hp → Prop) (hx : SqT K H a xs) (h0 : ∀ D H', H D = none → Same H H' → H' D = some (.lst []) → Pv D 0 [] H') (hl : ∀ D k acc H', H D = none → Pv D k acc H' → SqT K H' a xs)
    (hs : ∀ D (k : Nat) acc x H', H D = none → xs[k]? = some x → acc.length = k → H' D = some (.lst acc) → Pv D k acc H' → te ((wipe σ [i]).set i (some x)) H' fun y H4 => rAcc D y H4 (AccI (Pv D) D (k + 1)))
    (hd : ∀ D acc H', H D = none → acc.length = xs.length → H' D = some (.lst acc) → Pv D xs.length acc H' → f D H') : rLcT K (gName i) tYes te [i] σ (.ref a) H f := by
  refine ⟨a, rfl, ⟨xs, hx⟩, fun D hD => lc_tup (xs := xs) (AccI (Pv D) D) ⟨[], rfl, upd_same, h0 D _ hD (Same.new (Same.refl H) hD) upd_same⟩ (fun k H' _ p => ?_) ?_ ?_⟩
  · obtain ⟨acc, _, _, p⟩ := p
    exact hl D k acc H' hD p
  · rintro k x H' hk ⟨acc, hl, hA, p⟩
    have z := hs D k acc x H' hD hk hl hA p
    exact ⟨wipe_set, yes_of z⟩
  · rintro H' ⟨acc, hl, hA, p⟩
    exact hd D acc H' hD hl hA p
/-- join, by words of its own -/
def rJoin (K : PySem.W.Frag) : V → List V → Hp → VK → Prop := fun x xs H Q => ∃ a p, ∃ ys : List Str, x = .str a ∧ xs = [.ref p] ∧ (SqL K H p (ys.map V.str) ∨ SqT K H p (ys.map V.str)) ∧ (ys.map (·.length)).sum + ys.length * a.length ≤ 16777216 ∧ Q (.str (Txt.join a ys)) H
theorem pe_joinS {X : Cx} {o e : Expr} {to te : TE} {apos pos : Pos} (ho : PE X o to) (he : PE X e te) (hs : starEach [e] X.env = [(false, eval e X.env)] := by rfl) (hbase : attributeBase o "join" X.env (eval o X.env) = eval o X.env := by rfl) (hline : (apos.endLine == pos.line) = true := by rfl) :
    PE X (.Call (.Attribute o "join" apos) [e] [] pos) (tM1 (rJoin X.K) to te) := pe_join ho he hs hbase hline
theorem s_m1 {r : V → List V → Hp → VK → Prop} {to te : TE} {Q : VK} (q : to σ H fun x H1 => rStr x (te σ H1 fun y H2 => r x [y] H2 Q)) : tM1 r to te σ H Q := q
theorem s_str {z : Str} {R : Prop} (q : R) : rStr (.str z) R := ⟨⟨z, rfl⟩, q⟩
theorem s_join {a : Str} {p : Addr} {ys : List Str} {Q : VK} (h : H p = some (.lst (ys.map V.str))) (l : (ys.map (·.length)).sum + ys.length * a.length ≤ 16777216) (q : Q (.str (Txt.join a ys)) H) : rJoin K (.str a) [.ref p] H Q := ⟨a, p, ys, rfl, rfl, .inl (SqL.of h), l, q⟩
/-- stores into a list -/
theorem s_gSub {to ti : TE} {t : TSet} {v : V} {Q : St → Hp → Prop} (q : to σ H fun o H1 => ti σ H1 fun i H2 => t o i v H2 fun H3 => Q σ H3) : gSub to ti t v σ H Q := q
theorem s_setL {p : Addr} {xs : List V} {k : Int} {j : Nat} {v : V} {Q : Hp → Prop} (h : H p = some (.lst xs)) (e : ixN xs.length k = some j) (q : rMu H p (.lst (xs.set j v)) Q) : rSetL (.ref p) (.int k) v H Q := ⟨p, xs, k, j, rfl, rfl, h, e, q⟩
theorem ixN_of {n : Nat} {k : Int} (h0 : 0 ≤ k) (h1 : k < n) : ixN n k = some k.toNat := by unfold ixN; rw [if_pos h0, if_pos h1]
theorem s_rep {l : Addr} {k : Int} {xs : List V} {Q : VK} (h : H l = some (.lst xs)) (h1 : 0 ≤ k) (h2 : k < 1000) (h3 : xs.length ≤ 1000) (q : rNO H (.lst (List.replicate k.toNat xs).flatten) fun p H' => Q (.ref p) H') : rRep (.ref l) (.int k) H Q := by
  refine ⟨l, k, xs, rfl, rfl, h, by omega, by omega, ?_, q⟩
  have : k.toNat ≤ 1000 := by omega
  have := Nat.mul_le_mul h3 this
  rw [sizeLine_eq]
  omega
end
theorem seqIx {i : Int} {n : Nat} (h0 : 0 ≤ i) (h1 : i < n) : seqIndex? i n = some i.toNat := seqIndex_of h0 h1
end LH
end
section
set_option maxRecDepth 100000
set_option maxHeartbeats 4000000
namespace LH
open PySem L2 PyProof.Rows
/-! ### promises of defs that show data: around them no built-in guards itself -/
structure FnG (P : Program) (w : World) (K : PySem.W.Frag) (mg : Str → Option Value) (base : Heap) (k : Nat) (f : Addr) (fd : FuncData) (ps : List Str) (sp : Sp) : Prop where
  n : ∀ vs H Q E, sp vs H Q E → vs.length = ps.length
  go : ∀ (A : Around) (out : List Env) (s : Shared) (H : Hp) (args : Args) (us : List Value) (vs : List V) (Q : VK) (E : XK), Room k A → A.guards = some [] → Env0 P w K mg base A out s H →
    BindsTo s fd args (ps.zip us) → Vals vs us → sp vs H Q E → codeAny (model P w) A (.call (.ref f) args) (CR CX0 out P w H s Q E) s
section
variable {P : Program} {w : World} {K : PySem.W.Frag} {mg : Str → Option Value} {base : Heap}
theorem FnG.of {k : Nat} {f : Addr} {fd : FuncData} {ps : List Str} {sp : Sp} (F : FnOk P w K mg base CX0 k f fd ps sp) : FnG P w K mg base k f fd ps sp :=
  ⟨F.len, fun A out s H args us vs Q E r _ e b v q => F.run A out s H args us vs Q E r e b v q⟩
theorem okG {x qual : Str} {st : Stmt} {f : Addr} {fd : FuncData} {N ps : List Str} {k : Nat} {sp : Sp} (F : Fun K x qual st f fd) (S : FnScope N ps (defScope st)) (len : ∀ vs H Q E, sp vs H Q E → vs.length = ps.length)
    (body : ∀ (cdv : Value) (A : Around) (out : List Env) (s : Shared) (H : Hp) (vs : List V) (Q : VK) (E : XK), Room k (A.deeper (envOfC qual (defScope st) s.heap.objs.size f cdv)) → (A.deeper (envOfC qual (defScope st) s.heap.objs.size f cdv)).guards = some [] → sp vs H Q E →
      ∃ t, PSs (cxOf CX0 P w K mg base N qual (defScope st) f cdv A out s H E).nox (defBody st) t ∧ t { nx := fun _ H' => Q .non H', rt := Q } (start N vs) H) : FnG P w K mg base (k + 1) f fd ps sp := by
  obtain ⟨c0, d0, kv, dc, pm, an, cdv, ct, sl, rfl, here, code⟩ := F.ex
  refine ⟨len, fun A out s H args us vs Q E room hgu en bd rv hsp => ?_⟩
  have kin : K.In s.heap := en.mod.kin.keeps fun b o z => (en.bs b o z).1
  have nolim : s.heap.NoLimit := en.mod.nolimit.keeps fun b o z => (en.bs b o z).1
  have locals_ok : ∀ y ∈ ps.zip us, (defScope st).names.lookup y.1 = some .local ∨ ((defScope st).names.lookup y.1 = some .cell ∧ ((cellsFrom (s.heap.objs.size + 1) (defScope st).names []).lookup y.1).isSome = true) := by
    rintro ⟨nm, v⟩ hy
    cases S.par nm (List.of_mem_zip hy).1 with
    | inl z => exact Or.inl z
    | inr z => exact Or.inr ⟨z, PySem.W.cellsFrom_some _ _ _ (Or.inl z)⟩
  refine codeAny_call_function room.depth (kin _ _ here) rfl S.co S.gen rfl (PySem.W.codeRec_of kin code) (bd _ _ _ _ (wpAny_newFunctionEnv_cells S.kind locals_ok fun env henv s1 ic => ?_))
  subst henv
  refine ⟨nolim.keeps ic.toInCall.keep, codeAny_func ?_⟩
  obtain ⟨t, ht, tq⟩ := body cdv A out s H vs Q E (room.deeper _) hgu hsp
  have J0 := inv_start (CX := CX0) (E := E) S room.hd en (len _ _ _ _ hsp) rv ic
  have closing : ∀ {σ' : L2.St} {H' : Hp} {s' : Shared} {v : V} {u : Value}, Inv (cxOf CX0 P w K mg base N qual (defScope st) f cdv A out s H E) [] σ' H' s' → RelV v u → Q v H' → CE out P w H s Q u s' := by
    intro σ' H' s' v u J r q
    exact ⟨v, H', J.os, J.bare, J.base, J.hok, r, q⟩
  refine wpAny_mono (ht.nox.run [] s1 (start N vs) H _ J0 tq) (fun flow s' got => ?_) (fun _ _ z => z)
  cases flow with
  | brk => obtain ⟨_, _, _, z⟩ := got; exact z.elim
  | cont => obtain ⟨_, _, _, z⟩ := got; exact z.elim
  | next => obtain ⟨σ', H', J, z⟩ := got; exact closing (v := .non) (u := .none) J rfl z
  | ret u => obtain ⟨v, σ', H', J, r, z⟩ := got; exact closing J r z
end
section
variable {X : Cx} {k : Nat} {f : Addr} {fd : FuncData} {ps : List Str} {sp : Sp} {x : Str} {p pos : Pos} {e : Expr} {es : List Expr} {t : TA}
/-- a call of such a def -/
theorem pe_callG (F : FnG X.prog X.w X.K X.mg X.base k f fd ps sp) (room : Room k X.A) (hgu : X.A.guards = some []) (gl : Gl X x) (hm : X.mg x = some (.ref f)) (kp : PySem.W.keepIn X.K (.ref f) = true) (hb : Binds X.K fd ps [])
    (ha : PA X (e :: es) t) (hdb : (x == ("__debug__" : Str)) = false := by decide) (he : starEach (e :: es) X.env = (false, eval e X.env) :: starEach es X.env := by rfl) (hpl : (backTo pos (starEach es X.env)).any (·.1) = false := by rfl) :
    PE X (.Call (.Name x p) (e :: es) [] pos) (tCall sp [] E0 t) := by
  constructor
  intro pins s σ H Q I h
  refine wpAny_Call_Name_kw (ld_glob I gl hm ?_ hdb)
  refine PySem.W.callWith_K (h₀ := X.base) I.ok.mod.kin kp (thn (ha.run pos pins s σ H _ I h) fun us s1 z => ?_) he hpl
  obtain ⟨vs, H1, I1, r, q⟩ := z
  refine ⟨I1.kIn, ?_⟩
  rw [List.append_nil] at q
  have hl : us.length = ps.length := by rw [← r.length]; exact F.n _ _ _ _ q
  have bd := hb s1 us I1.kIn (by rw [List.append_nil]; exact hl)
  rw [List.append_nil] at bd
  refine wpAny_call (codeAny_mono (F.go X.A X.stack s1 H1 ⟨us, []⟩ us vs Q E0 room hgu I1.env0 bd r q) fun res s2 got => ?_)
  cases res with
  | error _ => exact got.elim
  | ok fl => cases fl with
    | ret u => exact I1.after got
    | next => exact got.elim
    | brk => exact got.elim
    | cont => exact got.elim
end
/-- the law's own call: nothing is tracked but the script -/
theorem law_runG {P : Program} {w : World} {K : PySem.W.Frag} {mg mb : Str → Option Value} {k : Nat} {fa a : Addr} {fd : FuncData} {x : Str} {sp : Sp} {s : Shared} {vs : List Value} {ns : List Int}
    (kin : K.In s.heap) (gns : s.heap.Ns mainGlobals mg) (bns : s.heap.Ns builtinsNs mb) (bbs : ∀ x : Str, x ≠ "__name__" → mb x = bootBuiltins x) (nolim : s.heap.NoLimit) (nogen : s.gens = #[])
    (at_a : s.heap.get? a = some { cls := .type "list", data := .seq vs.toArray }) (nums : IntsAre vs ns) (small : ns.length ≤ sizeLine) (room : Room k callerA)
    (F : ∀ base : Heap, K.In base → base.Ns mainGlobals mg → FnG P w K mg base k fa fd [x] sp) (bd : ∀ (s : Shared) (u : Value), BindsTo s fd ⟨[u], []⟩ [(x, u)])
    (good : ∀ H : Hp, SqL K H a (ns.map V.int) → sp [.ref a] H (fun v _ => v = .bl true) fun _ _ _ => False) :
    codeAny (model P w) callerA (.call (.ref fa) ⟨[.ref a], []⟩) (fun r s' => r = .ok (.ret (.bool true)) ∧ OldK s.heap s'.heap ∧ s'.os = s.os ∧ AllBare s'.gens) s := by
  have rv := vals_ints nums
  have count := nums.length
  -- the heap that is tracked: the script, if the written part doesn't have it
  obtain ⟨H, track, seq⟩ : ∃ H : Hp, (∀ b u, H b = some u → b = a ∧ u = .frz { cls := .type "list", data := .seq vs.toArray } (.lst (ns.map V.int)) ∧ K.lookup a = none) ∧ SqL K H a (ns.map V.int) := by
    cases written : K.lookup a with
    | some o =>
      have z := kin a o written
      rw [at_a] at z
      cases z
      refine ⟨fun _ => none, ?_, Or.inr ⟨_, vs.toArray, _, written, rfl, rfl, rfl, ?_, ?_⟩⟩
      · intro b u z; exact nomatch z
      · rw [List.size_toArray, count]; exact small
      · simpa using rv
    | none =>
      refine ⟨fun b => if b = a then some (.frz { cls := .type "list", data := .seq vs.toArray } (.lst (ns.map V.int))) else none, ?_, Or.inl (Or.inr ⟨_, if_pos rfl⟩)⟩
      intro b u z
      dsimp only at z
      split at z
      · next e => exact ⟨e, (Option.some.inj z).symm, rfl⟩
      · cases z
  have held : HOk P w H s.heap := by
    intro b u z
    obtain ⟨rfl, rfl, _⟩ := track b u z
    exact ⟨at_a, by rw [List.length_map]; exact small, vs, _, rv, at_a⟩
  have hidden : ∀ {b : Addr} {m : Str → Option Value}, s.heap.Ns b m → (hidT s.heap H).Ns b m := by
    rintro b m ⟨o, es, ep, e, d, r⟩
    refine ⟨o, es, ep, hidT_get e ?_, d, r⟩
    cases q : H b with
    | none => rfl
    | some u =>
      obtain ⟨rfl, _, _⟩ := track b u q
      rw [at_a] at e
      cases e
      exact nomatch d
  have kin2 : K.In (hidT s.heap H) := by
    intro b o e
    refine hidT_get (kin b o e) ?_
    cases q : H b with
    | none => rfl
    | some u =>
      obtain ⟨rfl, _, z⟩ := track b u q
      rw [z] at e
      cases e
  have md : Mod K mg (hidT s.heap H) := by
    obtain ⟨mc, n1, n2⟩ := nolim
    exact ⟨kin2, hidden gns, ⟨mb, hidden bns, bbs⟩, mc, hidden n1, n2⟩
  have en : Env0 P w K mg (hidT s.heap H) callerA [] s H := by
    refine ⟨rfl, md, fun b o e => of_hidT e, Nat.le_of_eq (hidT_size _ _), trivial, ?_, held, .of_eq nogen⟩
    intro b z
    exact absurd (show b ∈ ([] : List Addr) from z) (by simp)
  refine codeAny_mono ((F _ kin2 (hidden gns)).go callerA [] s H ⟨[.ref a], []⟩ [.ref a] [.ref a] _ _ room rfl en (bd s (.ref a)) (.cons rfl .nil) (good H seq)) fun r s' got => ?_
  cases r with
  | error e => exact got.elim
  | ok fl => cases fl with
    | next => exact got.elim
    | brk => exact got.elim
    | cont => exact got.elim
    | ret u =>
      obtain ⟨v, H', os, bare, un, held', r', q⟩ := got
      obtain rfl : v = .bl true := q
      obtain rfl : u = Value.bool true := r'
      refine ⟨rfl, OldK.of_keep fun b o e => ?_, os, bare⟩
      cases q : H b with
      | none =>
        refine un.keep b o e q (fun z => ?_) (by simp)
        exact absurd (show b ∈ ([] : List Addr) from z) (by simp)
      | some u =>
        obtain ⟨rfl, rfl, _⟩ := track b u q
        obtain ⟨e2, _⟩ := held' b _ (un.frzs b _ _ q)
        rw [at_a] at e
        cases e
        exact e2
theorem walkG {l : PySem.W.OpenLaw} {n k : Nat} {q : Program} {loose : List Str} {XP : (Str → Option Value) → Heap → Prop} {YP : World → Heap → Prop} {d : DefRec} {K : Params → PySem.W.Frag} {sp : PySem.W.Frag → Sp} {x : Str}
    (hn : l.most = some n) (hn2 : n ≤ sizeLine) (hdf : d.params.defaults = []) (room : Room k callerA) (hY : ∀ (w : World) (h : Heap), YP w h → (K w.params).In h)
    (F : ∀ (w : World) (mg : Str → Option Value) (fa : Addr) (h : Heap), (K w.params).In h → h.Ns mainGlobals mg → mg d.name = some (.ref fa) →
      ∃ fd : FuncData, (∀ (s : Shared) (u : Value), BindsTo s fd ⟨[u], []⟩ [(x, u)]) ∧ ∀ base : Heap, (K w.params).In base → base.Ns mainGlobals mg → FnG l.prog w (K w.params) mg base k fa fd [x] (sp (K w.params)))
    (good : ∀ (K : PySem.W.Frag) (H : Hp) (a : Addr) (ns : List Int), ns.length ≤ n → SqL K H a (ns.map V.int) → sp K [.ref a] H (fun v _ => v = .bl true) fun _ _ _ => False) :
    PySem.W.WalkO q loose XP YP l.row.toRowW d [] (fun f vs => PySem.call f vs) := by
  refine Att.attach_call hn hdf fun w s0 s1 mg mb fa o pm cd doc a vs ns G Y _ _ _ hmg obj nums len nogen => ?_
  have kin := hY w _ Y
  obtain ⟨fd, bd, FF⟩ := F w mg fa _ kin G.T.g hmg
  exact law_runG kin G.T.g G.T.b G.T.builtins G.T.nolimit nogen obj nums (Nat.le_trans len hn2) room FF bd fun H S => good (K w.params) H a ns len S
end LH
end
section
set_option maxRecDepth 100000
set_option maxHeartbeats 4000000
namespace LH
open PySem L2 PyProof.Rows
/-! ### data that is shown and sorted -/
structure Sd (d : PyData) : Prop where
  lay : d.layable0 = true
  short : d.intsShort 13 = true
  show' : d.showable = true
theorem hasDict_no {d : PyData} (h : Sd d) : d.hasDict = false := by
  have h1 := h.lay
  have h2 : (PyData.canLay0 d && decide (PyData.depth d ≤ 64) && decide (PyData.weight d ≤ 2 ^ 20)) = true := h1
  simp only [Bool.and_eq_true] at h2
  exact PyData.hasDict_of_canLay d h2.1.1
/-- data whose text is told -/
structure Sr (d : PyData) : Prop where
  nd : d.hasDict = false
  show' : d.showable = true
  len : d.shown.length ≤ 16777216
theorem Sd.sr {d : PyData} (h : Sd d) : Sr d := ⟨hasDict_no h, h.show', Nat.le_trans (shown_le13 h.lay h.short) (by decide)⟩
def rRepr (K : PySem.W.Frag) : List V → Hp → VK → Prop := fun xs H Q => ∃ x d, xs = [x] ∧ Dp K H x d ∧ Sr d ∧ d.depth ≤ 20 ∧ Q (.str d.shown) H
def rSortD (K : PySem.W.Frag) : List V → Hp → VK → Prop := fun vs H Q => ∃ (a : Addr) (β : Type) (val : β → V) (enc : β → PyData) (bs : List β), vs = [.ref a] ∧ SqL K H a (bs.map val) ∧ (∀ b ∈ bs, Dp K H (val b) (enc b)) ∧ PySem.W.AllAlike (bs.map enc) ∧ PySem.W.Sortable (bs.map enc) ∧ (∀ b ∈ bs, (enc b).depth ≤ 20) ∧
  rNO H (.lst ((bs.mergeSort (PySem.W.dataLe false enc)).map val)) fun l H' => Q (.ref l) H'
section
variable {X : Cx}
theorem one_val {x : V} {us : List Value} (r : Vals [x] us) : ∃ u, us = [u] ∧ RelV x u := by
  cases r with
  | cons r t => cases t; exact ⟨_, rfl, r⟩
theorem call_reprD (hu : X.A.units + 64 < cLine) (hg : X.A.guards = some []) : CallR X (.builtin "repr") (rRepr X.K) := by
  intro pins s σ H xs us Q I r h
  obtain ⟨x, d, rfl, hd, sd, dp, q⟩ := h
  obtain ⟨u, rfl, ru⟩ := one_val r
  have nd := sd.nd
  have sz : d.shown.length ≤ sizeLine := by rw [sizeLine_eq]; exact sd.len
  obtain ⟨as, rd⟩ := Dp.reads I d x u hd ru
  cases hd with
  | non => cases ru; exact PySem.P.repr_of_none ⟨.str _, H, I.tok _, ⟨_, rfl⟩, q⟩
  | bl b => cases ru; exact PySem.P.repr_of_bool ⟨.str _, H, I.tok _, ⟨_, rfl⟩, q⟩
  | int i =>
    obtain ⟨t, rfl⟩ := ru
    have z := sd.show'
    simp only [PyData.showable, decide_eq_true_eq] at z
    exact PySem.P.repr_of_int z ⟨.str _, H, I.tok _, ⟨_, rfl⟩, q⟩
  | str z =>
    obtain ⟨t, rfl⟩ := ru
    exact PySem.P.repr_of_str ⟨.str _, H, I.tok _, ⟨_, rfl⟩, q⟩ sz
  | lst h1 h2 =>
    cases ru
    exact repr_of_reads' rd sd.show' (PyData.noDict_hsm nd) hg (by omega) (fun _ _ e => e) (fun h' u tk hk => ⟨.str _, H, I.kept (t' := tk) hk, ⟨_, rfl⟩, q⟩) sz
  | tup h1 h2 =>
    cases ru
    exact repr_of_reads' rd sd.show' (PyData.noDict_hsm nd) hg (by omega) (fun _ _ e => e) (fun h' u tk hk => ⟨.str _, H, I.kept (t' := tk) hk, ⟨_, rfl⟩, q⟩) sz
theorem each_of {β : Type} {val : β → V} {bs : List β} : ∀ {its : List Value}, Vals (bs.map val) its → PySem.W.EachIs (fun (v : Value) (b : β) => RelV (val b) v) its bs := by
  induction bs with
  | nil => intro its r; cases r; exact .nil
  | cons b r ih =>
    intro its z
    rw [List.map_cons] at z
    cases z with
    | cons z1 z2 => exact .cons z1 (ih z2)
theorem of_each {β : Type} {val : β → V} : ∀ {bs : List β} {out : List Value}, PySem.W.EachIs (fun (v : Value) (b : β) => RelV (val b) v) out bs → Vals (bs.map val) out
  | _, _, .nil => .nil
  | _, _, .cons r t => .cons r (of_each t)
theorem reads_of {pins : List (Addr × Obj)} {σ : L2.St} {H : Hp} {s : Shared} (I : Inv X pins σ H s) {β : Type} {val : β → V} {enc : β → PyData} : ∀ {bs : List β} {its : List Value}, Vals (bs.map val) its → (∀ b ∈ bs, Dp X.K H (val b) (enc b)) →
    PySem.W.EachIs (fun (v : Value) (b : β) => ∃ as, Reads s.heap v (enc b) as) its bs := by
  intro bs
  induction bs with
  | nil => intro its r _; cases r; exact .nil
  | cons b r ih =>
    intro its z hd
    rw [List.map_cons] at z
    cases z with
    | cons z1 z2 => exact .cons (Dp.reads I _ _ _ (hd b List.mem_cons_self) z1) (ih z2 fun c hc => hd c (List.mem_cons_of_mem _ hc))
theorem cr_sortedD (hu : X.A.units + 64 < cLine) : CallR X (.builtin "sorted") (rSortD X.K) := by
  intro pins s σ H vs us Q I r h
  obtain ⟨a, β, val, enc, bs, rfl, hs, hdp, hal, hso, hdep, q⟩ := h
  obtain ⟨its, rv, hl, hz⟩ := I.list hs
  obtain ⟨u, rfl, ru⟩ := one_val r
  cases ru
  rw [List.length_map] at hz
  refine PySem.W.sorted_data (isL_of hl) (each_of rv) (reads_of I rv hdp) hal hso hz (fun b hb => by have := hdep b hb; omega) fun out ho eo => ?_
  obtain ⟨ep, he'⟩ := sortedAll_at s.heap its out.toArray
  have rel := of_each eo
  exact ⟨.ref _, upd H (s.heap.objs.size + 1) (.lst _), I.laid (t' := s.toks) (fun _ _ => sortedAll_old) (Nat.le_succ _) ⟨by rw [rel.length, ho]; exact hz, out, ep, rel, he'⟩, rfl, q _ (I.hok.fresh (Nat.le_succ _))⟩
end
/-! ### orders -/
theorem perm_eq {α : Type} {R : α → α → Prop} (anti : ∀ x y, R x y → R y x → x = y) : ∀ {a b : List α}, a.Perm b → a.Pairwise R → b.Pairwise R → a = b
  | [], b, p, _, _ => (List.nil_perm.mp p).symm
  | x :: r, [], p, _, _ => by have := p.length_eq; simp at this
  | x :: r, y :: t, p, h1, h2 => by
    have hx : x ∈ y :: t := p.mem_iff.mp List.mem_cons_self
    have hy : y ∈ x :: r := p.mem_iff.mpr List.mem_cons_self
    have e : x = y := by
      rcases List.mem_cons.mp hx with e | hx
      · exact e
      · rcases List.mem_cons.mp hy with e | hy
        · exact e.symm
        · exact anti x y ((List.pairwise_cons.mp h1).1 y hy) ((List.pairwise_cons.mp h2).1 x hx)
    subst e
    rw [perm_eq anti (List.Perm.cons_inv p) (List.pairwise_cons.mp h1).2 (List.pairwise_cons.mp h2).2]
def sLt (a b : Str) : Prop := a.cps.toList < b.cps.toList
def sLe (a b : Str) : Prop := ¬ b.cps.toList < a.cps.toList
theorem sLe_anti (a b : Str) (h1 : sLe a b) (h2 : sLe b a) : a = b := ext_toList (List.le_antisymm (by exact h1) (by exact h2))
theorem sLt_irrefl (a : Str) : ¬ sLt a a := List.lt_irrefl _
theorem sLt_trans {a b c : Str} (h1 : sLt a b) (h2 : sLt b c) : sLt a c := List.lt_trans h1 h2
theorem sLt_of {a b : Str} (h : sLe a b) (n : a ≠ b) : sLt a b := by
  unfold sLt
  false_or_by_contra
  rename_i z
  exact n (sLe_anti a b h z)
theorem sLe_trans {a b c : Str} (h1 : sLe a b) (h2 : sLe b c) : sLe a c := List.le_trans (l₁ := a.cps.toList) (l₂ := b.cps.toList) (l₃ := c.cps.toList) h1 h2
theorem rising_le : ∀ (l : List Str) (p : Str), risingS p l = true → (∀ x ∈ l, sLe p x) ∧ l.Pairwise sLe
  | [], p, _ => ⟨by simp, .nil⟩
  | x :: r, p, h => by
    simp only [risingS, Bool.and_eq_true, Bool.not_eq_true'] at h
    obtain ⟨h1, h2⟩ := h
    rw [ltCps_eq, decide_eq_false_iff_not] at h1
    obtain ⟨i1, i2⟩ := rising_le r x h2
    refine ⟨fun y hy => ?_, List.pairwise_cons.mpr ⟨i1, i2⟩⟩
    rcases List.mem_cons.mp hy with rfl | hy
    · exact h1
    · exact sLe_trans h1 (i1 y hy)
theorem sorted_le : ∀ {l : List Str}, sortedS l = true → l.Pairwise sLe
  | [], _ => .nil
  | x :: r, h => by
    obtain ⟨i1, i2⟩ := rising_le r x h
    exact List.pairwise_cons.mpr ⟨i1, i2⟩
/-! ### doors: name, room, move, goal, price -/
structure Door where
  name : Str
  room : Str
  move : Int
  goal : Str
  price : Int
abbrev doorV (d : Door) : List V := [.str d.name, .str d.room, .int d.move, .str d.goal, .int d.price]
def doorD (d : Door) : PyData := .tuple [.str d.name, .str d.room, .int d.move, .str d.goal, .int d.price]
def DoorAt (H : Hp) (v : V) (d : Door) : Prop := ∃ t, v = .ref t ∧ H t = some (.tup (doorV d))
theorem DoorAt.dp {K : PySem.W.Frag} {H : Hp} {v : V} {d : Door} (h : DoorAt H v d) : Dp K H v (doorD d) := by
  obtain ⟨t, rfl, e⟩ := h
  exact .tup (SqT.of e) (.cons (.str _) (.cons (.str _) (.cons (.int _) (.cons (.str _) (.cons (.int _) .nil)))))
theorem DoorAt.same {H H' : Hp} {v : V} {d : Door} (h : DoorAt H v d) (s : Same H H') : DoorAt H' v d := by
  obtain ⟨t, rfl, e⟩ := h
  exact ⟨t, rfl, s _ _ e⟩
theorem DoorAt.sb {H H' : Hp} {q : Addr} {v : V} {d : Door} (h : DoorAt H v d) (s : Sb q H H') (n : ∀ xs, H q ≠ some (.tup xs)) : DoorAt H' v d := by
  obtain ⟨t, rfl, e⟩ := h
  refine ⟨t, rfl, s _ _ (fun z => ?_) e⟩
  rw [z] at e
  exact n _ e
theorem Pen.noT {H : Hp} {p c : Addr} {n : Nat} (h : Pen H p c n) : ∀ xs, H p ≠ some (.tup xs) := by
  obtain ⟨ns, t, r, h1, _⟩ := h
  intro xs z
  rw [h1] at z
  cases z
theorem noT_of {H : Hp} {l : Addr} {xs : List V} (h : H l = some (.lst xs)) : ∀ ys, H l ≠ some (.tup ys) := by
  intro ys z
  rw [h] at z
  cases z
def DoorsAt (H : Hp) (vs : List V) (ds : List Door) : Prop := PySem.W.EachIs (DoorAt H) vs ds
theorem DoorsAt.imp {H H' : Hp} (f : ∀ v d, DoorAt H v d → DoorAt H' v d) : ∀ {vs : List V} {ds : List Door}, DoorsAt H vs ds → DoorsAt H' vs ds
  | _, _, .nil => .nil
  | _, _, .cons r t => .cons (f _ _ r) (DoorsAt.imp f t)
theorem DoorsAt.same {H H' : Hp} {vs : List V} {ds : List Door} (h : DoorsAt H vs ds) (s : Same H H') : DoorsAt H' vs ds := h.imp fun _ _ z => z.same s
theorem DoorsAt.sb {H H' : Hp} {q : Addr} {vs : List V} {ds : List Door} (h : DoorsAt H vs ds) (s : Sb q H H') (n : ∀ xs, H q ≠ some (.tup xs)) : DoorsAt H' vs ds := h.imp fun _ _ z => z.sb s n
theorem DoorsAt.all {K : PySem.W.Frag} {H : Hp} : ∀ {vs : List V} {ds : List Door}, DoorsAt H vs ds → DpAll K H vs (ds.map doorD)
  | _, _, .nil => .nil
  | _, _, .cons r t => .cons r.dp (DoorsAt.all t)
theorem DoorsAt.snoc {H : Hp} {v : V} {d : Door} (h : DoorAt H v d) : ∀ {vs : List V} {ds : List Door}, DoorsAt H vs ds → DoorsAt H (vs ++ [v]) (ds ++ [d])
  | _, _, .nil => .cons h .nil
  | _, _, .cons r t => .cons r (DoorsAt.snoc h t)
theorem DoorsAt.get {H : Hp} : ∀ {vs : List V} {ds : List Door} {i : Nat} {v : V}, DoorsAt H vs ds → vs[i]? = some v → ∃ d, ds[i]? = some d ∧ DoorAt H v d
  | _, _, 0, _, .cons r t, e => ⟨_, rfl, by simp at e; rw [← e]; exact r⟩
  | _, _, i + 1, _, .cons r t, e => by
    obtain ⟨d, h1, h2⟩ := DoorsAt.get (i := i) t (by simpa using e)
    exact ⟨d, by simpa using h1, h2⟩
/-- rising by their names, no two alike -/
def Rising (ds : List Door) : Prop := ds.Pairwise fun a b => sLt a.name b.name
theorem door_le {a b : Door} (n : a.name ≠ b.name) : PySem.W.dataLe false doorD a b = true → sLt a.name b.name := by
  intro h
  have e : (!PySem.W.dataLt (doorD b) (doorD a)) = true := h
  have al : PySem.W.alike (.str b.name) (.str a.name) = true := by simp [PySem.W.alike]
  unfold doorD at e
  rw [PySem.W.dataLt_tuple, PySem.W.dataLt_cons al] at e
  have ne : ¬ (PyData.eqv (.str b.name) (.str a.name) = true) := by
    simp only [PyData.eqv, beq_iff_eq]
    exact Ne.symm n
  rw [if_neg ne, PySem.W.dataLt_str] at e
  refine sLt_of ?_ n
  simpa [sLe, ltCps_eq] using e
/-- doors that are rising, in whatever order they come: sorted they are what they were -/
theorem sort_doors {β : Type} {f : β → Door} {bs : List β} {ds : List Door} (hp : (bs.map f).Perm ds) (hs : Rising ds) : (bs.mergeSort (PySem.W.dataLe false fun b => doorD (f b))).map f = ds := by
  have e : (bs.mergeSort (PySem.W.dataLe false fun b => doorD (f b))).map f = (bs.map f).mergeSort (PySem.W.dataLe false doorD) := PySem.W.sort_maps f (fun _ _ _ _ => rfl)
  rw [e]
  have pm : ((bs.map f).mergeSort (PySem.W.dataLe false doorD)).Perm ds := (List.mergeSort_perm _ _).trans hp
  refine perm_eq (R := fun (a b : Door) => sLt a.name b.name) (fun x y h1 h2 => absurd (sLt_trans h1 h2) (sLt_irrefl _)) pm ?_ hs
  have tot : PySem.W.TotalLe (PySem.W.dataLe (β := Door) false doorD) := PySem.W.sortLe_total _ _ _
  have srt := PySem.W.sort_pairwise tot (bs.map f)
  have nd : (((bs.map f).mergeSort (PySem.W.dataLe false doorD)).map (·.name)).Nodup := by
    refine (pm.map (·.name)).nodup_iff.mpr ?_
    refine List.pairwise_map.mpr (hs.imp ?_)
    intro a b h z
    rw [z] at h
    exact sLt_irrefl _ h
  have nd2 := List.pairwise_map.mp nd
  exact (srt.and nd2).imp fun {a b} ⟨h1, h2⟩ => door_le h2 h1
theorem doors_alike {β : Type} (f : β → Door) (bs : List β) : PySem.W.AllAlike (bs.map fun b => doorD (f b)) := by
  intro d hd d' hd'
  obtain ⟨a, _, rfl⟩ := List.mem_map.mp hd
  obtain ⟨b, _, rfl⟩ := List.mem_map.mp hd'
  simp [doorD, PySem.W.alike, PySem.W.alikeAll]
theorem doors_sortable {β : Type} (f : β → Door) (bs : List β) : PySem.W.Sortable (bs.map fun b => doorD (f b)) := by
  refine Or.inl fun d hd => ?_
  obtain ⟨a, _, rfl⟩ := List.mem_map.mp hd
  exact ⟨_, _, rfl⟩
/-! ### sorted texts, sorted keys -/
theorem s_sortS {K : PySem.W.Frag} {H : Hp} {Q : VK} {a : Addr} {xs : List Str} (h : SqL K H a (xs.map V.str)) (l : xs.length < 64) (q : ∀ ys : List Str, ys.Perm xs → ys.Pairwise sLe → rNO H (.lst (ys.map V.str)) fun p H' => Q (.ref p) H') : rSortedS K [.ref a] H Q :=
  ⟨a, xs, rfl, h, l, fun ys p pm so hp => q ys pm (sorted_le so) p hp⟩
def rSortK : List V → Hp → VK → Prop := fun xs H Q => ∃ (a : Addr) (kvs : List (Key × V)) (ks : List Str), xs = [.ref a] ∧ Rd H a (.dK kvs) ∧ kvs.map (·.1) = ks.map Sum.inr ∧ ks.length < 64 ∧ ∀ ys p, ys.Perm ks → sortedS ys = true → H p = none → Q (.ref p) (upd H p (.lst (ys.map V.str)))
theorem call_sortedK {X : Cx} (hc : X.calm = true) : CallR X (.builtin "sorted") rSortK := call_sortedD hc
theorem s_sortK {H : Hp} {Q : VK} {a : Addr} {kvs : List (Key × V)} {ks : List Str} (h : H a = some (.dK kvs)) (e : kvs.map (·.1) = ks.map Sum.inr) (l : ks.length < 64) (q : ∀ ys : List Str, ys.Perm ks → ys.Pairwise sLe → rNO H (.lst (ys.map V.str)) fun p H' => Q (.ref p) H') : rSortK [.ref a] H Q :=
  ⟨a, kvs, ks, rfl, .inl h, e, l, fun ys p pm so hp => q ys pm (sorted_le so) p hp⟩
/-! ### dicts by text keys -/
theorem mem_putK {kvs : List (Key × V)} {k : Key} {v : V} {x : Key × V} (h : x ∈ putK kvs k v) : x = (k, v) ∨ (x ∈ kvs ∧ x.1 ≠ k) := by
  unfold putK at h
  split at h
  · obtain ⟨y, hy, e⟩ := List.mem_map.mp h
    by_cases c : y.1 = k
    · rw [if_pos c] at e
      exact Or.inl (by rw [← e, c])
    · rw [if_neg c] at e
      exact Or.inr (by rw [← e]; exact ⟨hy, c⟩)
  · next hn =>
    rcases List.mem_append.mp h with h | h
    · refine Or.inr ⟨h, fun c => hn ?_⟩
      exact List.any_eq_true.mpr ⟨x, h, decide_eq_true c⟩
    · exact Or.inl (List.mem_singleton.mp h)
theorem putK_le (kvs : List (Key × V)) (k : Key) (v : V) : (putK kvs k v).length ≤ kvs.length + 1 := by
  unfold putK
  split
  · rw [List.length_map]; omega
  · rw [List.length_append]; exact Nat.le_refl _
theorem nodup_putK {kvs : List (Key × V)} {k : Key} {v : V} (h : (kvs.map (·.1)).Nodup) : ((putK kvs k v).map (·.1)).Nodup := by
  cases e : valV kvs k with
  | none => exact nd_putK v h e
  | some u =>
    have c : (kvs.any fun kv => decide (kv.1 = k)) = true := by rw [valV_any, e]; rfl
    unfold putK
    rw [if_pos c, List.map_map]
    have : ((fun x : Key × V => x.1) ∘ fun kv : Key × V => if kv.1 = k then (kv.1, v) else kv) = fun x => x.1 := by
      funext y
      show (if y.1 = k then (y.1, v) else y).1 = y.1
      split <;> rfl
    rw [this]
    exact h
theorem valV_mem {kvs : List (Key × V)} {k : Key} (h : k ∈ kvs.map (·.1)) : ∃ v, valV kvs k = some v ∧ (k, v) ∈ kvs := by
  induction kvs with
  | nil => simp at h
  | cons p r ih =>
    by_cases c : p.1 = k
    · exact ⟨p.2, valV_pos c, by rw [← c]; exact List.mem_cons_self⟩
    · have h' : k ∈ r.map (·.1) := by
        rw [List.map_cons] at h
        rcases List.mem_cons.mp h with e | h
        · exact absurd e.symm c
        · exact h
      obtain ⟨v, h1, h2⟩ := ih h'
      exact ⟨v, by rw [valV_neg c]; exact h1, List.mem_cons_of_mem _ h2⟩
/-- all keys are texts -/
theorem keys_texts : ∀ {kvs : List (Key × V)}, (∀ x ∈ kvs, ∃ z, x.1 = Sum.inr z) → ∃ ks : List Str, kvs.map (·.1) = ks.map Sum.inr
  | [], _ => ⟨[], rfl⟩
  | p :: r, h => by
    obtain ⟨z, hz⟩ := h p List.mem_cons_self
    obtain ⟨ks, hk⟩ := keys_texts (kvs := r) fun x hx => h x (List.mem_cons_of_mem _ hx)
    exact ⟨z :: ks, by rw [List.map_cons, List.map_cons, hz, hk]⟩
/-! ### a sort as plain data -/
structure SData where
  rooms : List Str
  doors : List Door
structure DOk (rooms : List Str) (d : Door) : Prop where
  nm : Nm d.name
  rm : d.room ∈ rooms
  mv : -1 ≤ d.move ∧ d.move ≤ 1
  gl : Nm d.goal
  pr : 1 ≤ d.price ∧ d.price ≤ 99
structure SOk (S : SData) : Prop where
  rs : S.rooms.Pairwise sLe
  rl : 1 ≤ S.rooms.length ∧ S.rooms.length ≤ 18
  rn : ∀ z ∈ S.rooms, Nm z
  dl : S.doors.length ≤ 18
  dr : Rising S.doors
  dd : ∀ d ∈ S.doors, DOk S.rooms d
def sortK (ra da : Addr) : List (Key × V) := [(.inr "rooms", .ref ra), (.inr "doors", .ref da)]
theorem sortK_rooms (ra da : Addr) : valV (sortK ra da) (.inr "rooms") = some (.ref ra) := by simp [sortK, valV]
theorem sortK_doors (ra da : Addr) : valV (sortK ra da) (.inr "doors") = some (.ref da) := by simp [sortK, valV, key_iff, ofS_iff]
theorem make_sort (ra da : Addr) : mergeK [] (sortK ra da) = sortK ra da := by simp [sortK, mergeK, putK, key_iff, ofS_iff]
/-- a sort as a dict stands at v; av: what its own objects are not -/
def SortAt (av : Addr → Prop) (H : Hp) (v : V) (S : SData) : Prop := ∃ (a ra da : Addr) (ts : List V), v = .ref a ∧ (¬ av a ∧ ¬ av ra ∧ ¬ av da) ∧ H a = some (.dK (sortK ra da)) ∧ H ra = some (.lst (S.rooms.map V.str)) ∧ H da = some (.lst ts) ∧ DoorsAt H ts S.doors
section
variable {av av' : Addr → Prop} {H H' : Hp} {v : V} {S : SData}
theorem SortAt.weak (h : SortAt av H v S) (w : ∀ q, av' q → av q) : SortAt av' H v S := by
  obtain ⟨a, ra, da, ts, rfl, ⟨x1, x2, x3⟩, h⟩ := h
  exact ⟨a, ra, da, ts, rfl, ⟨fun z => x1 (w _ z), fun z => x2 (w _ z), fun z => x3 (w _ z)⟩, h⟩
theorem SortAt.same (h : SortAt av H v S) (s : Same H H') : SortAt av H' v S := by
  obtain ⟨a, ra, da, ts, rfl, x, h1, h2, h3, h4⟩ := h
  exact ⟨a, ra, da, ts, rfl, x, s _ _ h1, s _ _ h2, s _ _ h3, h4.same s⟩
theorem SortAt.sb {p c : Addr} {n : Nat} (h : SortAt av H v S) (s : Sb p H H') (hP : Pen H p c n) : SortAt av H' v S := by
  obtain ⟨a, ra, da, ts, rfl, x, h1, h2, h3, h4⟩ := h
  have na : a ≠ p := by
    obtain ⟨ns, t, r, q1, _⟩ := hP
    refine ne_of h1 q1 (fun z => ?_)
    have := HO.dK.inj z
    simp [sortK, penK] at this
  exact ⟨a, ra, da, ts, rfl, x, s _ _ na h1, s _ _ (hP.ne h2) h2, s _ _ (hP.ne h3) h3, h4.sb s hP.noT⟩
/-- a list that is avoided has changed -/
theorem SortAt.mutL {l : Addr} {xs : List V} (h : SortAt av H v S) (hl : av l) (e : H l = some (.lst xs)) (s : Sb l H H') : SortAt av H' v S := by
  obtain ⟨a, ra, da, ts, rfl, ⟨x1, x2, x3⟩, h1, h2, h3, h4⟩ := h
  exact ⟨a, ra, da, ts, rfl, ⟨x1, x2, x3⟩, s _ _ (fun z => x1 (z ▸ hl)) h1, s _ _ (fun z => x2 (z ▸ hl)) h2, s _ _ (fun z => x3 (z ▸ hl)) h3, h4.sb s (noT_of e)⟩
end
/-- a list of texts stands at v -/
def StrsAt (av : Addr → Prop) (H : Hp) (v : V) (zs : List Str) : Prop := ∃ a : Addr, v = .ref a ∧ ¬ av a ∧ H a = some (.lst (zs.map V.str))
section
variable {av av' : Addr → Prop} {H H' : Hp} {v : V} {zs : List Str}
theorem StrsAt.weak (h : StrsAt av H v zs) (w : ∀ q, av' q → av q) : StrsAt av' H v zs := by
  obtain ⟨a, rfl, x, h⟩ := h
  exact ⟨a, rfl, fun z => x (w _ z), h⟩
theorem StrsAt.same (h : StrsAt av H v zs) (s : Same H H') : StrsAt av H' v zs := by
  obtain ⟨a, rfl, x, h⟩ := h
  exact ⟨a, rfl, x, s _ _ h⟩
theorem StrsAt.sb {p c : Addr} {n : Nat} (h : StrsAt av H v zs) (s : Sb p H H') (hP : Pen H p c n) : StrsAt av H' v zs := by
  obtain ⟨a, rfl, x, h⟩ := h
  exact ⟨a, rfl, x, s _ _ (hP.ne h) h⟩
theorem StrsAt.mutL {l : Addr} (h : StrsAt av H v zs) (hl : av l) (s : Sb l H H') : StrsAt av H' v zs := by
  obtain ⟨a, rfl, x, h⟩ := h
  exact ⟨a, rfl, x, s _ _ (fun z => x (z ▸ hl)) h⟩
end
theorem Each.imp {α β : Type} {R R' : α → β → Prop} (f : ∀ a b, R a b → R' a b) : ∀ {as : List α} {bs : List β}, PySem.W.EachIs R as bs → PySem.W.EachIs R' as bs
  | _, _, .nil => .nil
  | _, _, .cons r t => .cons (f _ _ r) (Each.imp f t)
theorem Each.snoc {α β : Type} {R : α → β → Prop} {a : α} {b : β} (h : R a b) : ∀ {as : List α} {bs : List β}, PySem.W.EachIs R as bs → PySem.W.EachIs R (as ++ [a]) (bs ++ [b])
  | _, _, .nil => .cons h .nil
  | _, _, .cons r t => .cons r (Each.snoc h t)
theorem Each.get {α β : Type} {R : α → β → Prop} : ∀ {as : List α} {bs : List β} {i : Nat} {a : α}, PySem.W.EachIs R as bs → as[i]? = some a → ∃ b, bs[i]? = some b ∧ R a b
  | _, _, 0, _, .cons r t, e => ⟨_, rfl, by simp at e; rw [← e]; exact r⟩
  | _, _, i + 1, _, .cons r t, e => by
    obtain ⟨d, h1, h2⟩ := Each.get (i := i) t (by simpa using e)
    exact ⟨d, by simpa using h1, h2⟩
theorem Each.drop {α β : Type} {R : α → β → Prop} : ∀ {as : List α} {bs : List β} (n : Nat), PySem.W.EachIs R as bs → PySem.W.EachIs R (as.drop n) (bs.drop n)
  | _, _, 0, h => h
  | _, _, _ + 1, .nil => .nil
  | _, _, n + 1, .cons _ t => Each.drop n t
theorem Each.dropLast {α β : Type} {R : α → β → Prop} : ∀ {as : List α} {bs : List β}, PySem.W.EachIs R as bs → PySem.W.EachIs R as.dropLast bs.dropLast
  | _, _, .nil => .nil
  | _, _, .cons _ .nil => .nil
  | _, _, .cons r (.cons r2 t) => .cons r (Each.dropLast (.cons r2 t))
theorem Each.rev {α β : Type} {R : α → β → Prop} : ∀ {as : List α} {bs : List β}, PySem.W.EachIs R as bs → PySem.W.EachIs R as.reverse bs.reverse
  | _, _, .nil => .nil
  | _, _, .cons r t => by
    rw [List.reverse_cons, List.reverse_cons]
    exact Each.snoc r (Each.rev t)
/-! ### streets as plain data -/
structure TData where
  left : SData
  first : Int
  odd : List SData
  right : SData
structure TOk (T : TData) : Prop where
  l : SOk T.left
  r : SOk T.right
  o : ∀ S ∈ T.odd, SOk S
  n : T.odd.length ≤ 8
  f : -50 ≤ T.first ∧ T.first ≤ 50
def streetK (lv : V) (f : Int) (oa : Addr) (rv : V) : List (Key × V) := [(.inr "left", lv), (.inr "first", .int f), (.inr "odd", .ref oa), (.inr "right", rv)]
theorem streetK_left (lv : V) (f : Int) (oa : Addr) (rv : V) : valV (streetK lv f oa rv) (.inr "left") = some lv := by simp [streetK, valV]
theorem streetK_first (lv : V) (f : Int) (oa : Addr) (rv : V) : valV (streetK lv f oa rv) (.inr "first") = some (.int f) := by simp [streetK, valV, ofS_iff]
theorem streetK_odd (lv : V) (f : Int) (oa : Addr) (rv : V) : valV (streetK lv f oa rv) (.inr "odd") = some (.ref oa) := by simp [streetK, valV, ofS_iff]
theorem streetK_right (lv : V) (f : Int) (oa : Addr) (rv : V) : valV (streetK lv f oa rv) (.inr "right") = some rv := by simp [streetK, valV, ofS_iff]
theorem make_street (lv : V) (f : Int) (oa : Addr) (rv : V) : mergeK [] (streetK lv f oa rv) = streetK lv f oa rv := by simp [streetK, mergeK, putK, ofS_iff]
def StreetAt (av : Addr → Prop) (H : Hp) (v : V) (T : TData) : Prop := ∃ (a oa : Addr) (lv rv : V) (os : List V), v = .ref a ∧ (¬ av a ∧ ¬ av oa) ∧ H a = some (.dK (streetK lv T.first oa rv)) ∧ SortAt av H lv T.left ∧ SortAt av H rv T.right ∧ H oa = some (.lst os) ∧ PySem.W.EachIs (SortAt av H) os T.odd
section
variable {av av' : Addr → Prop} {H H' : Hp} {v : V} {T : TData}
theorem StreetAt.weak (h : StreetAt av H v T) (w : ∀ q, av' q → av q) : StreetAt av' H v T := by
  obtain ⟨a, oa, lv, rv, os, rfl, ⟨x1, x2⟩, h1, h2, h3, h4, h5⟩ := h
  exact ⟨a, oa, lv, rv, os, rfl, ⟨fun z => x1 (w _ z), fun z => x2 (w _ z)⟩, h1, h2.weak w, h3.weak w, h4, Each.imp (fun _ _ z => z.weak w) h5⟩
theorem StreetAt.same (h : StreetAt av H v T) (s : Same H H') : StreetAt av H' v T := by
  obtain ⟨a, oa, lv, rv, os, rfl, x, h1, h2, h3, h4, h5⟩ := h
  exact ⟨a, oa, lv, rv, os, rfl, x, s _ _ h1, h2.same s, h3.same s, s _ _ h4, Each.imp (fun _ _ z => z.same s) h5⟩
theorem StreetAt.sb {p c : Addr} {n : Nat} (h : StreetAt av H v T) (s : Sb p H H') (hP : Pen H p c n) : StreetAt av H' v T := by
  obtain ⟨a, oa, lv, rv, os, rfl, x, h1, h2, h3, h4, h5⟩ := h
  have na : a ≠ p := by
    obtain ⟨ns, t, r, q1, _⟩ := hP
    refine ne_of h1 q1 (fun z => ?_)
    have := HO.dK.inj z
    simp [streetK, penK] at this
  exact ⟨a, oa, lv, rv, os, rfl, x, s _ _ na h1, h2.sb s hP, h3.sb s hP, s _ _ (hP.ne h4) h4, Each.imp (fun _ _ z => z.sb s hP) h5⟩
theorem StreetAt.mutL {l : Addr} {xs : List V} (h : StreetAt av H v T) (hl : av l) (e : H l = some (.lst xs)) (s : Sb l H H') : StreetAt av H' v T := by
  obtain ⟨a, oa, lv, rv, os, rfl, ⟨x1, x2⟩, h1, h2, h3, h4, h5⟩ := h
  exact ⟨a, oa, lv, rv, os, rfl, ⟨x1, x2⟩, s _ _ (fun z => x1 (z ▸ hl)) h1, h2.mutL hl e s, h3.mutL hl e s, s _ _ (fun z => x2 (z ▸ hl)) h4, Each.imp (fun _ _ z => z.mutL hl e s) h5⟩
end
theorem Sb.some' {p c q : Addr} {n : Nat} {H H' : Hp} (s : Sb p H H') (hP : Pen H' p c n) (h : H q ≠ none) : H' q ≠ none := by
  by_cases e : q = p
  · obtain ⟨ns, t, r, h1, _⟩ := hP
    rw [e, h1]
    exact fun z => nomatch z
  · cases hq : H q with
    | none => exact absurd hq h
    | some o => rw [s q o e hq]; exact fun z => nomatch z
theorem Same.some' {q : Addr} {H H' : Hp} (s : Same H H') (h : H q ≠ none) : H' q ≠ none := by
  cases hq : H q with
  | none => exact absurd hq h
  | some o => rw [s q o hq]; exact fun z => nomatch z
theorem at_last {α : Type} {xs : List α} (h : 0 < xs.length) : atI xs (-1) = some (xs[xs.length - 1]) := by
  unfold atI ixN
  rw [if_neg (by decide), if_pos (by omega)]
  show xs[((-1 : Int) + xs.length).toNat]? = _
  rw [show ((-1 : Int) + xs.length).toNat = xs.length - 1 by omega]
  exact List.getElem?_eq_getElem (by omega)
theorem at_zero {α : Type} {xs : List α} (h : 0 < xs.length) : atI xs 0 = some (xs[0]) := atI_nat (j := 0) (List.getElem?_eq_getElem h)
theorem Each.len {α β : Type} {R : α → β → Prop} : ∀ {as : List α} {bs : List β}, PySem.W.EachIs R as bs → as.length = bs.length := fun h => h.length
theorem Each.at {α β : Type} {R : α → β → Prop} {as : List α} {bs : List β} (h : PySem.W.EachIs R as bs) {i : Nat} (hi : i < as.length) : ∃ hb : i < bs.length, R as[i] bs[i] := by
  obtain ⟨b, h1, h2⟩ := Each.get h (List.getElem?_eq_getElem hi)
  obtain ⟨hb, e⟩ := List.getElem?_eq_some_iff.mp h1
  exact ⟨hb, by rw [e]; exact h2⟩
theorem perm_of_map {α β : Type} {f : α → β} {g : β → α} (h : ∀ a, g (f a) = a) {ys : List β} {xs : List α} (p : ys.Perm (xs.map f)) : ∃ ws : List α, ws.Perm xs ∧ ys = ws.map f := by
  refine ⟨ys.map g, ?_, ?_⟩
  · have := p.map g
    rw [List.map_map] at this
    have e : (g ∘ f) = id := by funext a; exact h a
    rw [e, List.map_id] at this
    exact this
  · rw [List.map_map]
    have : ∀ y ∈ ys, y = (f ∘ g) y := by
      intro y hy
      obtain ⟨a, _, rfl⟩ := List.mem_map.mp (p.mem_iff.mp hy)
      show f a = f (g (f a))
      rw [h]
    have e := List.map_congr_left this
    rw [List.map_id'] at e
    exact e
def unS : V → Str
  | .str z => z
  | _ => ⟨#[]⟩
theorem perm_strs {ys : List V} {xs : List Str} (p : ys.Perm (xs.map V.str)) : ∃ ws : List Str, ws.Perm xs ∧ ys = ws.map V.str := perm_of_map (g := unS) (fun _ => rfl) p
theorem Each.repl {α β : Type} {R : α → β → Prop} {a : α} {b : β} (h : R a b) : ∀ n : Nat, PySem.W.EachIs R (List.replicate n a) (List.replicate n b)
  | 0 => .nil
  | n + 1 => .cons h (Each.repl h n)
/-- what is told of each item of a list in another order -/
theorem Each.perm {α β : Type} {R : α → β → Prop} {as as' : List α} {bs : List β} (h : PySem.W.EachIs R as bs) (p : as'.Perm as) : ∃ bs' : List β, bs'.Perm bs ∧ PySem.W.EachIs R as' bs' := by
  induction p generalizing bs with
  | nil => cases h; exact ⟨[], .refl _, .nil⟩
  | cons a _ ih =>
    cases h with
    | cons r t =>
      obtain ⟨bs', p', h'⟩ := ih t
      exact ⟨_ :: bs', p'.cons _, .cons r h'⟩
  | swap a a' l =>
    cases h with
    | cons r t => cases t with
      | cons r' t' => exact ⟨_ :: _ :: _, List.Perm.swap _ _ _, .cons r' (.cons r t')⟩
  | trans _ _ ih1 ih2 =>
    obtain ⟨b2, p2, h2⟩ := ih2 h
    obtain ⟨b1, p1, h1⟩ := ih1 h2
    exact ⟨b1, p1.trans p2, h1⟩
/-! ### a list or a tuple, walked -/
def Sq (H : Hp) (a : Addr) (xs : List V) : Prop := H a = some (.lst xs) ∨ H a = some (.tup xs)
def iSq (K : PySem.W.Frag) (tl : TE) : TI := fun σ H R => tl σ H fun x H1 => (∃ a, x = .ref a ∧ (∃ xs, SqL K H1 a xs) ∧ R (Itl K a) H1) ∨ (∃ a, x = .ref a ∧ (∃ xs, SqT K H1 a xs) ∧ R (Itt K a) H1)
theorem pi_sq {X : Cx} {tg e : Expr} {tl : TE} (he : PE X e tl) : PI X tg e (iSq X.K tl) := by
  constructor
  intro pins s σ H R I h
  refine thn (he.run pins s σ H _ I h) fun v s1 got => ?_
  obtain ⟨x, H1, I1, rx, q⟩ := got
  have new : ∀ b ∈ [s1.heap.objs.size], FpOk X pins H1 b := by
    intro b hb
    rw [List.mem_singleton] at hb
    rw [hb]
    exact I1.fpOk (Nat.le_refl _) (I1.hok.fresh (Nat.le_refl _))
  rcases q with ⟨a, rfl, ⟨xs, hx⟩, r⟩ | ⟨a, rfl, ⟨xs, hx⟩, r⟩
  · cases rx
    obtain ⟨its, _, pl, _⟩ := I1.list hx
    refine wpAny_pyIter_list pl.isList ⟨s1.heap.objs.size, [s1.heap.objs.size], _, _, H1, rfl, ?_, turn_list a _, ⟨_, Heap.get?_push_size _ rfl, rfl, rfl⟩, new, r⟩
    exact I1.kept (t' := s1.toks) fun b o z => Heap.get?_push_of_some _ z
  · cases rx
    obtain ⟨its, _, pl, _⟩ := I1.tuple hx
    refine wpAny_pyIter_tuple (show s1.heap.IsTuple a its.toArray from pl) ⟨s1.heap.objs.size, [s1.heap.objs.size], _, _, H1, rfl, ?_, turn_tuple a _, ⟨_, Heap.get?_push_size _ rfl, rfl, rfl⟩, new, r⟩
    exact I1.kept (t' := s1.toks) fun b o z => Heap.get?_push_of_some _ z
def rLcS (K : PySem.W.Frag) (g : TG) (tt : TT) (te : TE) (vs : List Nat) (σ : L2.St) (x : V) (H1 : Hp) (f : Addr → Hp → Prop) : Prop := rLcL K g tt te vs σ x H1 f ∨ rLcT K g tt te vs σ x H1 f
theorem s_lcS {K : PySem.W.Frag} {g : TG} {tt : TT} {te : TE} {vs : List Nat} {tl : TE} {σ : L2.St} {H : Hp} {Q : VK} (q : tl σ H fun x H1 => rLcS K g tt te vs σ x H1 fun D H2 => Q (.ref D) H2) : tLc (iSq K tl) g tt te vs σ H Q := q
theorem s_lcSI {K : PySem.W.Frag} {σ : L2.St} {H : Hp} {i : Nat} {te : TE} {a : Addr} {xs : List V} {f : Addr → Hp → Prop} (Pv : Addr → Nat → List V → Hp → Prop) (hx : Sq H a xs) (h0 : ∀ D H', H D = none → Same H H' → H' D = some (.lst []) → Pv D 0 [] H')
    (hl : ∀ D k acc H' o, H D = none → Pv D k acc H' → H a = some o → H' a = some o)
    (hs : ∀ D (k : Nat) acc x H', H D = none → xs[k]? = some x → acc.length = k → H' D = some (.lst acc) → Pv D k acc H' → te ((wipe σ [i]).set i (some x)) H' fun y H4 => rAcc D y H4 (AccI (Pv D) D (k + 1)))
    (hd : ∀ D acc H', H D = none → acc.length = xs.length → H' D = some (.lst acc) → Pv D xs.length acc H' → f D H') : rLcS K (gName i) tYes te [i] σ (.ref a) H f := by
  rcases hx with hx | hx
  · exact Or.inl (s_lcLI Pv (SqL.of hx) h0 (fun D k acc H' hD p => SqL.of (hl D k acc H' _ hD p hx)) hs hd)
  · exact Or.inr (s_lcTI Pv (SqT.of hx) h0 (fun D k acc H' hD p => SqT.of (hl D k acc H' _ hD p hx)) hs hd)
/-! ### objects made, ints -/
def rMake (C : Addr) (sp : Sp) (vs : List V) (H : Hp) (E : XK) (f : Addr → Hp → Prop) : Prop := ∀ x dx, H x = none → H dx = none → dx ≠ x → sp (.ref x :: vs) (upd (upd H dx (.own x)) x (.ins C dx [])) (fun v H2 => v = .non ∧ f x H2) E
theorem s_make {C : Addr} {sp : Sp} {E : XK} {t : TA} {σ : L2.St} {H : Hp} {Q : VK} (q : t σ H fun vs H1 => rMake C sp (vs ++ []) H1 E fun x H2 => Q (.ref x) H2) : tMake C sp [] E t σ H Q := q
theorem s_mkO {C : Addr} {sp : Sp} {vs : List V} {H : Hp} {E : XK} {f : Addr → Hp → Prop} (q : ∀ x dx H', H x = none → H dx = none → Same H H' → H' x = some (.ins C dx []) → sp (.ref x :: vs) H' (fun v H2 => v = .non ∧ f x H2) E) : rMake C sp vs H E f := by
  intro x dx hx hdx n
  refine q x dx _ hx hdx ?_ upd_same
  exact Same.new (Same.new (Same.refl H) hdx) hx
def rIntI : List V → Hp → VK → Prop := fun xs H Q => ∃ i, xs = [.int i] ∧ Q (.int i) H
theorem call_intI {X : Cx} : CallR X (.type "int") rIntI := fun pins s σ H xs us Q I r h => call_int1 pins s σ H xs us Q I r (Or.inl h)
theorem s_intI {i : Int} {H : Hp} {Q : VK} (q : Q (.int i) H) : rIntI [.int i] H Q := ⟨i, rfl, q⟩
/-! ### a Sort object -/
def sortF (ra da : Addr) : List (Str × V) := putF "_doors" (.ref da) (putF "_rooms" (.ref ra) [])
theorem nrd : ¬ (("_rooms" : Str) = "_doors") := by decide +kernel
theorem ndr : ¬ (("_doors" : Str) = "_rooms") := by decide +kernel
theorem sortF_rooms (ra da : Addr) : (sortF ra da).lookup ("_rooms" : Str) = some (.ref ra) := by
  unfold sortF
  rw [lookup_putF, if_neg nrd, lookup_putF, if_pos rfl]
theorem sortF_doors (ra da : Addr) : (sortF ra da).lookup ("_doors" : Str) = some (.ref da) := by
  unfold sortF
  rw [lookup_putF, if_pos rfl]
theorem sortF_no (ra da : Addr) {m : Str} (h1 : ¬ m = "_rooms") (h2 : ¬ m = "_doors") : (sortF ra da).lookup m = none := by
  unfold sortF
  rw [lookup_putF, if_neg h2, lookup_putF, if_neg h1]
  rfl
def SortO (C : Addr) (av : Addr → Prop) (H : Hp) (v : V) (S : SData) : Prop := ∃ (x dx ra da : Addr) (ts : List V), v = .ref x ∧ (¬ av x ∧ ¬ av ra ∧ ¬ av da) ∧ H x = some (.ins C dx (sortF ra da)) ∧ H ra = some (.lst (S.rooms.map V.str)) ∧ H da = some (.lst ts) ∧ DoorsAt H ts S.doors
section
variable {C : Addr} {av av' : Addr → Prop} {H H' : Hp} {v : V} {S : SData}
theorem SortO.weak (h : SortO C av H v S) (w : ∀ q, av' q → av q) : SortO C av' H v S := by
  obtain ⟨x, dx, ra, da, ts, rfl, ⟨x1, x2, x3⟩, h⟩ := h
  exact ⟨x, dx, ra, da, ts, rfl, ⟨fun z => x1 (w _ z), fun z => x2 (w _ z), fun z => x3 (w _ z)⟩, h⟩
theorem SortO.same (h : SortO C av H v S) (s : Same H H') : SortO C av H' v S := by
  obtain ⟨x, dx, ra, da, ts, rfl, n, h1, h2, h3, h4⟩ := h
  exact ⟨x, dx, ra, da, ts, rfl, n, s _ _ h1, s _ _ h2, s _ _ h3, h4.same s⟩
theorem SortO.sb {p c : Addr} {n : Nat} (h : SortO C av H v S) (s : Sb p H H') (hP : Pen H p c n) : SortO C av H' v S := by
  obtain ⟨x, dx, ra, da, ts, rfl, m, h1, h2, h3, h4⟩ := h
  exact ⟨x, dx, ra, da, ts, rfl, m, s _ _ (hP.neI h1) h1, s _ _ (hP.ne h2) h2, s _ _ (hP.ne h3) h3, h4.sb s hP.noT⟩
theorem SortO.mutL {l : Addr} {xs : List V} (h : SortO C av H v S) (hl : av l) (e : H l = some (.lst xs)) (s : Sb l H H') : SortO C av H' v S := by
  obtain ⟨x, dx, ra, da, ts, rfl, ⟨x1, x2, x3⟩, h1, h2, h3, h4⟩ := h
  exact ⟨x, dx, ra, da, ts, rfl, ⟨x1, x2, x3⟩, s _ _ (fun z => x1 (z ▸ hl)) h1, s _ _ (fun z => x2 (z ▸ hl)) h2, s _ _ (fun z => x3 (z ▸ hl)) h3, h4.sb s (noT_of e)⟩
end
end LH
end
section
set_option maxRecDepth 100000
set_option maxHeartbeats 4000000
namespace LH
open PySem L2 PyProof.Rows
/-! ### methods -/
def rMeth (C : Addr) (m : Str) (x : V) (H1 : Hp) (R : Prop) : Prop := ∃ a dx fs, x = .ref a ∧ H1 a = some (.ins C dx fs) ∧ fs.lookup m = none ∧ R
section
variable {σ : L2.St} {H : Hp} {Q : VK}
theorem s_methO {C : Addr} {m : Str} {sp : Sp} {E : XK} {ta : TE} {t : TA} (q : ta σ H fun x H1 => rMeth C m x H1 (t σ H1 fun vs H2 => sp (x :: (vs ++ [])) H2 Q E)) : tMeth C m sp [] E ta t σ H Q := q
theorem s_methV {C a dx : Addr} {fs : List (Str × V)} {m : Str} {R : Prop} (h : H a = some (.ins C dx fs)) (n : fs.lookup m = none) (q : R) : rMeth C m (.ref a) H R := ⟨a, dx, fs, rfl, h, n, q⟩
end
/-! ### doors beside what stands for them -/
theorem doors_zip {H : Hp} : ∀ {ts : List V} {ds : List Door}, DoorsAt H ts ds → ∃ bs : List (V × Door), bs.map (·.1) = ts ∧ bs.map (·.2) = ds ∧ ∀ b ∈ bs, DoorAt H b.1 b.2
  | _, _, .nil => ⟨[], rfl, rfl, by simp⟩
  | _, _, .cons r t => by
    obtain ⟨bs, h1, h2, h3⟩ := doors_zip t
    refine ⟨(_, _) :: bs, by rw [List.map_cons, h1], by rw [List.map_cons, h2], ?_⟩
    intro b hb
    rcases List.mem_cons.mp hb with rfl | hb
    · exact r
    · exact h3 b hb
theorem doors_of {H : Hp} : ∀ {bs : List (V × Door)}, (∀ b ∈ bs, DoorAt H b.1 b.2) → DoorsAt H (bs.map (·.1)) (bs.map (·.2))
  | [], _ => .nil
  | b :: r, h => .cons (h b List.mem_cons_self) (doors_of fun c hc => h c (List.mem_cons_of_mem _ hc))
theorem door_depth (d : Door) : (doorD d).depth ≤ 20 := by
  simp [doorD, PyData.depth, PyData.depthAll]
theorem s_sortDoors {K : PySem.W.Frag} {H : Hp} {Q : VK} {a : Addr} {ts : List V} {ds es : List Door} (h : SqL K H a ts) (hd : DoorsAt H ts ds) (p : ds.Perm es) (r : Rising es)
    (q : ∀ ts', DoorsAt H ts' es → rNO H (.lst ts') fun l H' => Q (.ref l) H') : rSortD K [.ref a] H Q := by
  obtain ⟨bs, rfl, rfl, h3⟩ := doors_zip hd
  refine ⟨a, V × Door, (·.1), fun b => doorD b.2, bs, rfl, h, fun b hb => (h3 b hb).dp, doors_alike _ _, doors_sortable _ _, fun b _ => door_depth _, ?_⟩
  have e := sort_doors (f := fun b : V × Door => b.2) p r
  refine q _ ?_
  have z := doors_of (H := H) (bs := bs.mergeSort (PySem.W.dataLe false fun b => doorD b.2)) fun b hb => h3 b ((List.mergeSort_perm _ _).mem_iff.mp hb)
  rw [e] at z
  exact z
/-! ### Sort objects -/
section
variable {C : Addr} {av av' : Addr → Prop} {H H' : Hp} {v : V} {S : SData}
theorem SortO.mut {l : Addr} (h : SortO C av H v S) (hl : av l) (nt : ∀ xs, H l ≠ some (.tup xs)) (s : Sb l H H') : SortO C av H' v S := by
  obtain ⟨x, dx, ra, da, ts, rfl, ⟨x1, x2, x3⟩, h1, h2, h3, h4⟩ := h
  exact ⟨x, dx, ra, da, ts, rfl, ⟨x1, x2, x3⟩, s _ _ (fun z => x1 (z ▸ hl)) h1, s _ _ (fun z => x2 (z ▸ hl)) h2, s _ _ (fun z => x3 (z ▸ hl)) h3, h4.sb s nt⟩
/-- what is free or another object is none of its own -/
theorem SortO.avoid {D dy l : Addr} {fs : List (Str × V)} (h : SortO C av H v S) (e : H l = some (.ins D dy fs)) (n : fs.lookup ("_rooms" : Str) = none) : SortO C (fun q => q = l) H v S := by
  obtain ⟨x, dx, ra, da, ts, rfl, _, h1, h2, h3, h4⟩ := h
  refine ⟨x, dx, ra, da, ts, rfl, ⟨fun z => ?_, fun z => ?_, fun z => ?_⟩, h1, h2, h3, h4⟩
  · subst z
    rw [h1] at e
    injection e with e
    injection e with e1 e2 e3
    rw [← e3, sortF_rooms] at n
    cases n
  · subst z; rw [h2] at e; cases e
  · subst z; rw [h3] at e; cases e
end
theorem noT_ins {H : Hp} {l C dx : Addr} {fs : List (Str × V)} (h : H l = some (.ins C dx fs)) : ∀ ys, H l ≠ some (.tup ys) := by
  intro ys z
  rw [h] at z
  cases z
theorem Sq.same {H H' : Hp} {a : Addr} {xs : List V} (h : Sq H a xs) (s : Same H H') : Sq H' a xs := h.imp (s _ _) (s _ _)
theorem Sq.sb {H H' : Hp} {a x C dx : Addr} {xs : List V} {fs : List (Str × V)} (h : Sq H a xs) (e : H x = some (.ins C dx fs)) (s : Sb x H H') : Sq H' a xs := by
  rcases h with h | h
  · exact .inl (s _ _ (ne_of h e (by intro z; cases z)) h)
  · exact .inr (s _ _ (ne_of h e (by intro z; cases z)) h)
/-! ### Street objects -/
def streetF (lv : V) (f : Int) (oa : Addr) (rv : V) : List (Str × V) := putF "_right" rv (putF "_odd" (.ref oa) (putF "_first" (.int f) (putF "_left" lv [])))
theorem t_lf : ¬ (("_left" : Str) = "_first") := by decide +kernel
theorem t_lo : ¬ (("_left" : Str) = "_odd") := by decide +kernel
theorem t_lr : ¬ (("_left" : Str) = "_right") := by decide +kernel
theorem t_fo : ¬ (("_first" : Str) = "_odd") := by decide +kernel
theorem t_fr : ¬ (("_first" : Str) = "_right") := by decide +kernel
theorem t_or : ¬ (("_odd" : Str) = "_right") := by decide +kernel
theorem streetF_left (lv : V) (f : Int) (oa : Addr) (rv : V) : (streetF lv f oa rv).lookup ("_left" : Str) = some lv := by
  unfold streetF
  rw [lookup_putF, if_neg t_lr, lookup_putF, if_neg t_lo, lookup_putF, if_neg t_lf, lookup_putF, if_pos rfl]
theorem streetF_first (lv : V) (f : Int) (oa : Addr) (rv : V) : (streetF lv f oa rv).lookup ("_first" : Str) = some (.int f) := by
  unfold streetF
  rw [lookup_putF, if_neg t_fr, lookup_putF, if_neg t_fo, lookup_putF, if_pos rfl]
theorem streetF_odd (lv : V) (f : Int) (oa : Addr) (rv : V) : (streetF lv f oa rv).lookup ("_odd" : Str) = some (.ref oa) := by
  unfold streetF
  rw [lookup_putF, if_neg t_or, lookup_putF, if_pos rfl]
theorem streetF_right (lv : V) (f : Int) (oa : Addr) (rv : V) : (streetF lv f oa rv).lookup ("_right" : Str) = some rv := by
  unfold streetF
  rw [lookup_putF, if_pos rfl]
theorem streetF_no (lv : V) (f : Int) (oa : Addr) (rv : V) {m : Str} (h1 : ¬ m = "_left") (h2 : ¬ m = "_first") (h3 : ¬ m = "_odd") (h4 : ¬ m = "_right") : (streetF lv f oa rv).lookup m = none := by
  unfold streetF
  rw [lookup_putF, if_neg h4, lookup_putF, if_neg h3, lookup_putF, if_neg h2, lookup_putF, if_neg h1]
  rfl
def StreetO (CS CT : Addr) (av : Addr → Prop) (H : Hp) (v : V) (T : TData) : Prop := ∃ (x dx oa : Addr) (lv rv : V) (os : List V), v = .ref x ∧ (¬ av x ∧ ¬ av oa) ∧ H x = some (.ins CT dx (streetF lv T.first oa rv)) ∧ SortO CS av H lv T.left ∧ SortO CS av H rv T.right ∧ H oa = some (.lst os) ∧ PySem.W.EachIs (SortO CS av H) os T.odd
section
variable {CS CT : Addr} {av av' : Addr → Prop} {H H' : Hp} {v : V} {T : TData}
theorem StreetO.weak (h : StreetO CS CT av H v T) (w : ∀ q, av' q → av q) : StreetO CS CT av' H v T := by
  obtain ⟨x, dx, oa, lv, rv, os, rfl, ⟨x1, x2⟩, h1, h2, h3, h4, h5⟩ := h
  exact ⟨x, dx, oa, lv, rv, os, rfl, ⟨fun z => x1 (w _ z), fun z => x2 (w _ z)⟩, h1, h2.weak w, h3.weak w, h4, Each.imp (fun _ _ z => z.weak w) h5⟩
theorem StreetO.same (h : StreetO CS CT av H v T) (s : Same H H') : StreetO CS CT av H' v T := by
  obtain ⟨x, dx, oa, lv, rv, os, rfl, n, h1, h2, h3, h4, h5⟩ := h
  exact ⟨x, dx, oa, lv, rv, os, rfl, n, s _ _ h1, h2.same s, h3.same s, s _ _ h4, Each.imp (fun _ _ z => z.same s) h5⟩
theorem StreetO.mut {l : Addr} (h : StreetO CS CT av H v T) (hl : av l) (nt : ∀ xs, H l ≠ some (.tup xs)) (s : Sb l H H') : StreetO CS CT av H' v T := by
  obtain ⟨x, dx, oa, lv, rv, os, rfl, ⟨x1, x2⟩, h1, h2, h3, h4, h5⟩ := h
  exact ⟨x, dx, oa, lv, rv, os, rfl, ⟨x1, x2⟩, s _ _ (fun z => x1 (z ▸ hl)) h1, h2.mut hl nt s, h3.mut hl nt s, s _ _ (fun z => x2 (z ▸ hl)) h4, Each.imp (fun _ _ z => z.mut hl nt s) h5⟩
theorem StreetO.sb {p c : Addr} {n : Nat} (h : StreetO CS CT av H v T) (s : Sb p H H') (hP : Pen H p c n) : StreetO CS CT av H' v T := by
  obtain ⟨x, dx, oa, lv, rv, os, rfl, m, h1, h2, h3, h4, h5⟩ := h
  exact ⟨x, dx, oa, lv, rv, os, rfl, m, s _ _ (hP.neI h1) h1, h2.sb s hP, h3.sb s hP, s _ _ (hP.ne h4) h4, Each.imp (fun _ _ z => z.sb s hP) h5⟩
end
theorem putF_lt {f : Str} {y : V} : ∀ {fs : List (Str × V)} {n : Nat}, fs.length < n → (putF f y fs).length < n + 1
  | [], n, h => by
    show 1 < n + 1
    have : (0 : Nat) < n := h
    omega
  | p :: r, 0, h => absurd h (Nat.not_lt_zero _)
  | p :: r, n + 1, h => by
    unfold putF
    split
    · simp at h ⊢; omega
    · have := putF_lt (f := f) (y := y) (fs := r) (n := n) (by simpa using h)
      simp; omega
theorem Same.of_sb {x : Addr} {H H' : Hp} (s : Sb x H H') (h : H x = none) : Same H H' := fun b o e => s b o (ne_of_none e h) e
end LH
end
section
set_option maxRecDepth 100000
set_option maxHeartbeats 4000000
namespace GQ
open PySem PySem.SeqAt
open AutoSeq1 (wpAny_loadPart')
open MeetsSeq MeetsSeq2 MeetsSeq3 SeqRoads2
section
variable {prog : Program} {w : World} {A : Around} {R : Result → Shared → Prop}
/-- at each turn the list is read anew: N items, the i-th unlike x -/
def ListN (prog : Program) (w : World) (A : Around) (E : Value → Shared → Prop) (l : Addr) (x : Value) (N : Nat) (I : Nat → Shared → Prop) : Prop :=
  ∀ i s, I i s → ∃ (items : Array Value) (n : Nat), s.heap.get? l = some { cls := .type "list", data := .seq items n } ∧ items.size = N ∧
    ∀ (h1 : i < items.size), wpAny (model prog w) A.in1 (eqBool items[i] x) (fun r s' => r = false ∧ I (i + 1) s') E s
theorem none_loopG (l : Addr) (x : Value) (N : Nat) (I : Nat → Shared → Prop) (hl : ListN prog w A (fun e s' => R (.error e) s') l x N I)
    (fin : ∀ s, I N s → R (.ok (.ret (.bool false))) s) (k : Nat) :
    ∀ i : Nat, N - i = k → i ≤ N → ∀ s, I i s →
      wpAny (model prog w) A.in1 (Builtin.«list.__contains__.loop» ⟨[.ref l, x, rawInt i], []⟩) (FinOf prog w A R) (fun e s' => R (.error e) s') s := by
  induction k with
  | zero =>
    intro i hk hi s h
    obtain ⟨items, n, hl1, hs1, _⟩ := hl _ _ h
    have hi' : i = N := by omega
    have hR : R (.ok (.ret (.bool false))) s := fin s (hi' ▸ h)
    obtain ⟨hp, g, d, tk, os⟩ := s
    wp_walk using wpAny_loadPart' hl1
    have hi1 : items[((i : Nat) : Int).toNat]? = none := by simp; omega
    rw [hi1]
    wp_walk
    exact hR
  | succ k ih =>
    intro i hk hi s h
    obtain ⟨items, n, hl1, hs1, turn⟩ := hl _ _ h
    have hlt : i < items.size := by omega
    have ht := turn hlt
    obtain ⟨hp, g, d, tk, os⟩ := s
    wp_walk using wpAny_loadPart' hl1
    have hi1 : items[((i : Nat) : Int).toNat]? = some items[i] := by simp [hlt]
    have hc : ((i : Int) + 1) = ((i + 1 : Nat) : Int) := by omega
    rw [hi1]
    refine wpAny_bind (wpAny_mono ht (fun r s2 h2 => ?_) fun _ _ x => x)
    obtain ⟨hr, h2⟩ := h2
    subst hr
    have hrec := ih (i + 1) (by omega) (by omega) s2 h2
    obtain ⟨hp2, g2, d2, tk2, os2⟩ := s2
    wp_walk
    rw [hc]
    exact ⟨plainId_quiet plain_contains_loop _, codeAny_builtin entry_contains_loop (by
      rw [Around.under_plainId plain_contains_loop _]
      exact hrec)⟩
theorem none_containsG (l : Addr) (x : Value) (N : Nat) (I : Nat → Shared → Prop) (hl : ListN prog w A (fun e s' => R (.error e) s') l x N I)
    (fin : ∀ s, I N s → R (.ok (.ret (.bool false))) s) {s : Shared} (h : I 0 s) :
    wpAny (model prog w) A.in1 (Builtin.«list.__contains__» ⟨[.ref l, x], []⟩) (FinOf prog w A R) (fun e s' => R (.error e) s') s := by
  have hrec := none_loopG l x N I hl fin N 0 (by omega) (by omega) s h
  obtain ⟨items, n, hl1, _⟩ := hl _ _ h
  obtain ⟨hp, g, d, tk, os⟩ := s
  wp_walk using wpAny_loadPart' hl1
  exact ⟨plainId_quiet plain_contains_loop _, codeAny_builtin entry_contains_loop (by
    rw [Around.under_plainId plain_contains_loop _]
    exact hrec)⟩
theorem in_noneG {E : Value → Shared → Prop} {s : Shared} {l : Addr} {x : Value} {N : Nat} {Q : Value → Shared → Prop} (I : Nat → Shared → Prop) (hl : ListN prog w A E l x N I)
    (fin : ∀ s, I N s → Q (.bool false) s) (h : I 0 s) : wpAny (model prog w) A (compareOp .In x (.ref l)) Q E s := by
  obtain ⟨items, n, hl1, _, _⟩ := hl _ _ h
  show wpAny _ A (do return .bool (← contains (.ref l) x)) Q E s
  refine wpAny_bind (wpAny_contains_slot ⟨_, hl1, rfl⟩ F.slot_list_contains (call_here F.slot_list_contains ⟨_, hl1, rfl⟩ F.entry_list_contains (F.args_list_contains_2 _ _) ?_))
  exact none_containsG (R := wants _ E) l x N I hl (fun s' q => wpAny_truthy_bool (wpAny_pure (fin s' q))) h
end
end GQ
namespace LH
open PySem L2 PyProof.Rows
/-- what an own == promises of None -/
def spEqN (C : Addr) : Sp := fun vs H Q _ => ∃ a dx fs, vs = [.ref a, .non] ∧ H a = some (.ins C dx fs) ∧ ∀ H', Ext H H' → Q (.bl false) H'
def rNoneOwn (K : PySem.W.Frag) (C : Addr) : R2 := fun x y H Q => ∃ p xs, x = .non ∧ y = .ref p ∧ H p = some (.lst xs) ∧ (∀ z ∈ xs, ∃ a dx fs, z = .ref a ∧ H a = some (.ins C dx fs)) ∧ ∀ H', Ext H H' → Q (.bl false) H'
section
variable {X : Cx} {C f : Addr} {fd : FuncData} {ps : List Str} {n : Nat}
theorem none_turn (F : FnOk X.prog X.w X.K X.mg X.base CX0 n f fd ps (spEqN C)) (hs : PySem.W.findIn X.K (.ref C) "__eq__" = some (some (.ref f))) (hf : PySem.W.isFn X.K (.ref f) = true) (hb : Binds X.K fd ps [])
    {A : Around} (sb : Sub X n A) {pins : List (Addr × Obj)} {σ : L2.St} {H : Hp} {s : Shared} (I : Inv X pins σ H s) {a dx : Addr} {fs : List (Str × V)} (ha : H a = some (.ins C dx fs)) :
    wpAny (model X.prog X.w) A (eqBool (.ref a) .none) (fun r s' => r = false ∧ LoopI X pins σ H s') X.xe s := by
  unfold eqBool
  refine wpAny_holding ?_
  refine wpAny_ite_split (fun hab => absurd (eq_of_beq hab) nofun) (fun _ => ?_)
  refine wpAny_bind (wpAny_mono (Q := fun v s' => v = .bool false ∧ LoopI X pins σ H s') ?_ (fun v s' hv => ?_) fun _ _ x => x)
  · obtain ⟨mA, J, _⟩ := ins_get I.hok ha
    obtain ⟨od, J, _⟩ := J.look
    obtain ⟨m, hF⟩ := I.fr
    refine PySem.W.cmp_K (op := .Eq) (tb := .type "NoneType") sb.room.units0 hF I.ok.mod.kin J (PySem.W.Looks.of_pure rfl) (by rfl) hs hf ?_
    have hsp : spEqN C [.ref a, .non] H (fun v H' => v = .bl false ∧ Ext H H') E0 := ⟨a, dx, fs, rfl, ha, fun H' e => ⟨rfl, e⟩⟩
    have e0 : Env0 X.prog X.w X.K X.mg X.base A X.stack s H := by
      have e := I.env0
      exact ⟨by rw [sb.fr]; exact e.frames, e.mod, e.bs, e.bsz, e.funs, e.frf, e.hok, e.bare⟩
    have hl := F.len _ _ _ _ hsp
    have r2 : Vals [V.ref a, V.non] [Value.ref a, Value.none] := .cons rfl (.cons rfl .nil)
    refine wpAny_call (codeAny_mono (F.run A X.stack s H ⟨[.ref a, .none], []⟩ [.ref a, .none] [.ref a, .non] _ E0 sb.room e0 (by
      have := hb s [.ref a, .none] I.kIn (by simpa using hl)
      simpa using this) r2 hsp) fun r s' hq => ?_)
    cases r with
    | error e => exact hq.elim
    | ok fl =>
      cases fl with
      | ret w =>
        obtain ⟨z, H', I', rz, ez, ex⟩ := I.after hq
        subst ez
        cases rz
        exact ⟨rfl, H', I', ex⟩
      | next => exact False.elim hq
      | brk => exact False.elim hq
      | cont => exact False.elim hq
  · obtain ⟨rfl, q⟩ := hv
    exact wpAny_truthy_bool ⟨rfl, q⟩
theorem op_noneOwn (F : FnOk X.prog X.w X.K X.mg X.base CX0 n f fd ps (spEqN C)) (hs : PySem.W.findIn X.K (.ref C) "__eq__" = some (some (.ref f))) (hf : PySem.W.isFn X.K (.ref f) = true) (hb : Binds X.K fd ps [])
    (hr : Room (n + 1) X.A) : OpR X (compareOp .In) (rNoneOwn X.K C) := by
  intro pins s σ H x y v u Q I rx ry h
  obtain ⟨p, xs, rfl, rfl, hq, all, q⟩ := h
  cases rx
  cases ry
  refine GQ.in_noneG (N := xs.length) (fun _ s' => LoopI X pins σ H s') (fun i s' l => ?_) (fun s' l => ?_) ⟨H, I, Ext.rfl'⟩
  · obtain ⟨H1, I1, e1⟩ := l
    obtain ⟨z, its, k, r, e⟩ := I1.hok p _ (e1 _ _ hq)
    refine ⟨its.toArray, k, e, by rw [List.size_toArray, ← r.length], fun h1 => ?_⟩
    have hi : i < xs.length := by rw [r.length]; simpa using h1
    obtain ⟨u, hu, ru⟩ := r.get (List.getElem?_eq_getElem hi)
    obtain ⟨a, dx, fs, ea, ha⟩ := all _ (List.getElem_mem hi)
    rw [ea] at ru
    cases ru
    have g1 : its[i]? = some its.toArray[i] := by
      have h1' : i < its.length := by simpa using h1
      rw [List.getElem?_eq_getElem h1'] <;> simp
    rw [g1] at hu
    rw [Option.some.inj hu]
    have sb : Sub X (n + 1) X.A := ⟨hr, rfl⟩
    refine wpAny_mono (none_turn F hs hf hb sb.in1 I1 (e1 _ _ ha)) (fun r s2 z => ?_) fun _ _ x => x
    obtain ⟨hr', H2, I2, e2⟩ := z
    exact ⟨hr', H2, I2, e1.trans e2⟩
  · obtain ⟨H1, I1, e1⟩ := l
    exact ⟨.bl false, H1, I1, rfl, q H1 e1⟩
end
/-! ### len of an own object -/
def rLenO (C : Addr) (sp : Sp) : List V → Hp → VK → Prop := fun xs H Q => ∃ a dx fs, xs = [.ref a] ∧ H a = some (.ins C dx fs) ∧ sp [.ref a] H (fun v H' => ∃ k : Nat, v = .int k ∧ k < 2 ^ 60 ∧ Q (.int k) H') E0
theorem call_lenO {X : Cx} {C f : Addr} {fd : FuncData} {ps : List Str} {n : Nat} {sp : Sp} (F : FnOk X.prog X.w X.K X.mg X.base CX0 n f fd ps sp) (m : Meth X.K C "__len__" f) (hb : Binds X.K fd ps []) (hr : Room (n + 1) X.A) : CallR X (.builtin "len") (rLenO C sp) := by
  intro pins s σ H xs us Q I r h
  obtain ⟨a, dx, fs, rfl, ha, q⟩ := h
  obtain ⟨u, rfl, ru⟩ := one_val r
  cases ru
  obtain ⟨mA, J, _⟩ := ins_get I.hok ha
  obtain ⟨od, J, _⟩ := J.look
  obtain ⟨mm, hF⟩ := I.fr
  refine PySem.W.len_K hF I.ok.mod.kin J m.at_ m.fn ?_
  have sb : Sub X n X.A.in1 := Sub.in1 ⟨hr, rfl⟩
  have e0 : Env0 X.prog X.w X.K X.mg X.base X.A.in1 X.stack s H := by
    have e := I.env0
    exact ⟨by rw [sb.fr]; exact e.frames, e.mod, e.bs, e.bsz, e.funs, e.frf, e.hok, e.bare⟩
  have hl := F.len _ _ _ _ q
  have r2 : Vals [V.ref a] [Value.ref a] := .cons rfl .nil
  refine wpAny_call (codeAny_mono (F.run X.A.in1 X.stack s H ⟨[.ref a], []⟩ [.ref a] [.ref a] _ E0 sb.room e0 (by
    have := hb s [.ref a] I.kIn (by simpa using hl)
    simpa using this) r2 q) fun r s' hq => ?_)
  cases r with
  | error e => exact hq.elim
  | ok fl =>
    cases fl with
    | ret w =>
      obtain ⟨z, H', I', rz, k, ez, hk, q'⟩ := I.after hq
      subst ez
      obtain ⟨t, rfl⟩ := rz
      exact ⟨⟨by omega, by omega⟩, .int k, H', I'.tok _, ⟨_, rfl⟩, q'⟩
    | next => exact False.elim hq
    | brk => exact False.elim hq
    | cont => exact False.elim hq
end LH
end
section
set_option maxRecDepth 100000
set_option maxHeartbeats 4000000
namespace LH
open PySem L2 PyProof.Rows
/-! ### data that is small -/
structure Gd (k n : Nat) (d : PyData) : Prop where
  lay : d.canLay0 = true
  dep : d.depth ≤ k
  wt : d.weight ≤ n
  sh : d.intsShort 13 = true
  shw : d.showable = true
structure GdA (k n : Nat) (ds : List PyData) : Prop where
  lay : PyData.canLayAll0 ds = true
  dep : PyData.depthAll ds ≤ k
  wt : PyData.weightAll ds ≤ n
  sh : PyData.intsShortAll 13 ds = true
  shw : PyData.showableAll ds = true
theorem GdA.nil {k : Nat} : GdA k 0 [] := ⟨by simp [PyData.canLayAll0], by simp [PyData.depthAll], by simp [PyData.weightAll], by simp [PyData.intsShortAll], by simp [PyData.showableAll]⟩
theorem GdA.cons {k a b : Nat} {d : PyData} {ds : List PyData} (h : Gd k a d) (t : GdA k b ds) : GdA k (a + 1 + b) (d :: ds) := by
  refine ⟨?_, ?_, ?_, ?_, ?_⟩
  · simp only [PyData.canLayAll0, h.lay, t.lay, Bool.and_self]
  · simp only [PyData.depthAll]; exact Nat.max_le.mpr ⟨h.dep, t.dep⟩
  · simp only [PyData.weightAll]; have := h.wt; have := t.wt; omega
  · simp only [PyData.intsShortAll, h.sh, t.sh, Bool.and_self]
  · simp only [PyData.showableAll, h.shw, t.shw, Bool.and_self]
theorem Gd.list {k n : Nat} {ds : List PyData} (h : GdA k n ds) : Gd (k + 1) n (.list ds) := by
  refine ⟨?_, ?_, ?_, ?_, ?_⟩
  · simp only [PyData.canLay0, h.lay]
  · simp only [PyData.depth]; have := h.dep; omega
  · simp only [PyData.weight]; exact h.wt
  · simp only [PyData.intsShort, h.sh]
  · simp only [PyData.showable, h.shw]
theorem Gd.tuple {k n : Nat} {ds : List PyData} (h : GdA k n ds) : Gd (k + 1) n (.tuple ds) := by
  refine ⟨?_, ?_, ?_, ?_, ?_⟩
  · simp only [PyData.canLay0, h.lay]
  · simp only [PyData.depth]; have := h.dep; omega
  · simp only [PyData.weight]; exact h.wt
  · simp only [PyData.intsShort, h.sh]
  · simp only [PyData.showable, h.shw]
theorem Gd.mono {k n k' n' : Nat} {d : PyData} (h : Gd k n d) (hk : k ≤ k') (hn : n ≤ n') : Gd k' n' d := ⟨h.lay, Nat.le_trans h.dep hk, Nat.le_trans h.wt hn, h.sh, h.shw⟩
theorem GdA.mono {k n k' n' : Nat} {d : List PyData} (h : GdA k n d) (hk : k ≤ k') (hn : n ≤ n') : GdA k' n' d := ⟨h.lay, Nat.le_trans h.dep hk, Nat.le_trans h.wt hn, h.sh, h.shw⟩
theorem GdA.all {k n : Nat} : ∀ {ds : List PyData}, (∀ d ∈ ds, Gd k n d) → GdA k (ds.length * (n + 1)) ds
  | [], _ => GdA.nil.mono (Nat.le_refl _) (Nat.zero_le _)
  | d :: r, h => by
    have t := GdA.cons (h d List.mem_cons_self) (GdA.all fun c hc => h c (List.mem_cons_of_mem _ hc))
    refine t.mono (Nat.le_refl _) ?_
    rw [List.length_cons, Nat.succ_mul]
    omega
theorem Gd.str {z : Str} (h : Nm z) : Gd 1 8 (.str z) := by
  obtain ⟨_, h2, h3⟩ := h
  refine ⟨?_, by simp [PyData.depth], by simp only [PyData.weight]; exact h2, by simp [PyData.intsShort], by simp [PyData.showable]⟩
  simp only [PyData.canLay0, PyData.strOk]
  rw [Array.all_eq_true']
  intro c hc
  have := (h3 c (by simpa using hc)).2
  simp; omega
theorem ints_small : ∀ k : _root_.Fin 151, ((PyData.int ((k : Nat) - 51 : Int)).canLay0 && decide ((PyData.int ((k : Nat) - 51 : Int)).depth ≤ 1) && decide ((PyData.int ((k : Nat) - 51 : Int)).weight ≤ 7) && (PyData.int ((k : Nat) - 51 : Int)).intsShort 13 && (PyData.int ((k : Nat) - 51 : Int)).showable) = true := by decide +kernel
theorem Gd.int {i : Int} (h0 : -51 ≤ i) (h1 : i ≤ 99) : Gd 1 7 (.int i) := by
  have z := ints_small ⟨(i + 51).toNat, by omega⟩
  have e : (((i + 51).toNat : Nat) : Int) - 51 = i := by omega
  simp only [e, Bool.and_eq_true, decide_eq_true_eq] at z
  obtain ⟨⟨⟨⟨z1, z2⟩, z3⟩, z4⟩, z5⟩ := z
  exact ⟨z1, z2, z3, z4, z5⟩
structure DSmall (d : Door) : Prop where
  nm : Nm d.name
  rm : Nm d.room
  mv : -1 ≤ d.move ∧ d.move ≤ 1
  gl : Nm d.goal
  pr : 1 ≤ d.price ∧ d.price ≤ 99
theorem Gd.door {d : Door} (h : DSmall d) : Gd 2 43 (doorD d) := by
  have h1 := h.mv
  have h2 := h.pr
  exact Gd.tuple (GdA.cons (Gd.str h.nm) (GdA.cons (Gd.str h.rm) (GdA.cons (Gd.int (by omega) (by omega)) (GdA.cons (Gd.str h.gl) (GdA.cons (Gd.int (by omega) h2.2) GdA.nil)))))
theorem Gd.rooms {rs : List Str} (h : ∀ z ∈ rs, Nm z) (l : rs.length ≤ 18) : Gd 2 162 (.list (rs.map PyData.str)) := by
  have z := GdA.all (k := 1) (n := 8) (ds := rs.map PyData.str) fun d hd => by
    obtain ⟨z, hz, rfl⟩ := List.mem_map.mp hd
    exact Gd.str (h z hz)
  rw [List.length_map] at z
  exact Gd.list (z.mono (Nat.le_refl _) (by omega))
theorem Gd.doors {ds : List Door} (h : ∀ d ∈ ds, DSmall d) (l : ds.length ≤ 18) : Gd 3 792 (.list (ds.map doorD)) := by
  have z := GdA.all (k := 2) (n := 43) (ds := ds.map doorD) fun d hd => by
    obtain ⟨z, hz, rfl⟩ := List.mem_map.mp hd
    exact Gd.door (h z hz)
  rw [List.length_map] at z
  exact Gd.list (z.mono (Nat.le_refl _) (by omega))
theorem Gd.two {rs : List Str} {ds : List Door} (h : ∀ z ∈ rs, Nm z) (l : rs.length ≤ 18) (h2 : ∀ d ∈ ds, DSmall d) (l2 : ds.length ≤ 18) : GdA 3 1000 [.list (rs.map PyData.str), .list (ds.map doorD)] :=
  (GdA.cons ((Gd.rooms h l).mono (by decide) (Nat.le_refl _)) (GdA.cons (Gd.doors h2 l2) GdA.nil)).mono (Nat.le_refl _) (by decide)
theorem Gd.sd {d : PyData} (h : Gd 4 1000 d) : Sd d := by
  refine ⟨?_, h.sh, h.shw⟩
  simp only [PyData.layable0, Bool.and_eq_true, decide_eq_true_eq]
  have h1 := h.dep
  have h2 := h.wt
  exact ⟨⟨h.lay, by omega⟩, by omega⟩
theorem SOk.small {S : SData} (ok : SOk S) : ∀ d ∈ S.doors, DSmall d := fun d hd => by
  have h := ok.dd d hd
  exact ⟨h.nm, ok.rn _ h.rm, h.mv, h.gl, h.pr⟩
theorem SortAt.fresh {av : Addr → Prop} {H : Hp} {v : V} {S : SData} {l : Addr} (h : SortAt av H v S) (e : H l = none) : SortAt (fun q => q = l) H v S := by
  obtain ⟨a, ra, da, ts, rfl, _, h1, h2, h3, h4⟩ := h
  exact ⟨a, ra, da, ts, rfl, ⟨ne_of_none h1 e, ne_of_none h2 e, ne_of_none h3 e⟩, h1, h2, h3, h4⟩
theorem s_ifQ {b : Bool} {ta tb : TE} {σ : L2.St} {H1 : Hp} {Q : VK} (P : V → Hp → Prop) (h : ∀ Q' : VK, (∀ x H', P x H' → Q' x H') → if b = true then ta σ H1 Q' else tb σ H1 Q') (q : ∀ x H', P x H' → Q x H') : if b = true then ta σ H1 Q else tb σ H1 Q := h Q q
theorem Each.mem {α β : Type} {R : α → β → Prop} : ∀ {as : List α} {bs : List β} {a : α}, PySem.W.EachIs R as bs → a ∈ as → ∃ b, R a b
  | _, _, _, .nil, h => by cases h
  | _, _, _, .cons r t, h => by
    rcases List.mem_cons.mp h with rfl | h
    · exact ⟨_, r⟩
    · exact Each.mem t h
theorem Each.app {α β : Type} {R : α → β → Prop} : ∀ {as as' : List α} {bs bs' : List β}, PySem.W.EachIs R as bs → PySem.W.EachIs R as' bs' → PySem.W.EachIs R (as ++ as') (bs ++ bs')
  | _, _, _, _, .nil, h => h
  | _, _, _, _, .cons r t, h => .cons r (Each.app t h)
/-- all sorts of a street, in its order -/
def TData.every (D : TData) : List SData := D.left :: (D.odd ++ [D.right])
theorem TData.every_len (D : TData) : D.every.length = D.odd.length + 2 := by simp [TData.every]
theorem TData.every_mid (D : TData) : (D.every.drop 1).dropLast = D.odd := by simp [TData.every]
theorem TData.every_ok {D : TData} (ok : TOk D) : ∀ S ∈ D.every, SOk S := fun S hS => by
  simp only [TData.every, List.mem_cons, List.mem_append, List.not_mem_nil, or_false] at hS
  rcases hS with rfl | hS | rfl
  · exact ok.l
  · exact ok.o S hS
  · exact ok.r
theorem strs_dp {K : PySem.W.Frag} {H : Hp} : ∀ rs : List Str, DpAll K H (rs.map V.str) (rs.map PyData.str)
  | [] => .nil
  | z :: r => .cons (.str z) (strs_dp r)
end LH
end
section
set_option maxRecDepth 100000
set_option maxHeartbeats 4000000
namespace HN
open PySem PySem.Spec PyProof.Rows PySem.SeqAt
section
variable {M : Model} {prog : Program} {w : World} {A : Around} {E : Value → Shared → Prop} {s : Shared} {K : PySem.W.Frag} {x C f : Addr} {ox : Obj} {od : Option Obj} {b tb : Value}
/-- object's own != asks the text's own == -/
theorem entry_neOwn {Q : Fin → Shared → Prop} (hu : A.units < cLine) (X : K.In s.heap) (I : PySem.W.InstAt s.heap x ox C od) (hs : PySem.W.findIn K (.ref C) "__eq__" = some (some (.ref f))) (hf : PySem.W.isFn K (.ref f) = true)
    (h : wpAny M A (call (.ref f) [.ref x, b]) (fun v s' => ∃ r, v = .bool r ∧ Q (.done (.ret (.bool (!r)))) s') E s) : wpAny M A (Builtin.«object.__ne__» ⟨[.ref x, b], []⟩) Q E s := by
  unfold Builtin.«object.__ne__»
  repeat (first
    | with_reducible refine wpAny_cRoomFor hu ?_
    | (refine wpAny_bind (m := callSpecialIfBound? (.ref x) (Str.ofString "__eq__") [b])
        (PySem.W.ifBound_K X I hs hf (wpAny_mono h (fun r s' hr => by
          obtain ⟨b, rfl, hq⟩ := hr
          repeat (first | exact hq | exact wpAny_pure hq | exact wpAny_truthy_bool hq | (refine wpAny_bind (m := truthy (.bool _)) (wpAny_truthy_bool ?_)) | wp_step)) fun _ _ e => e)))
    | wp_step)
theorem ifBound_objNe {args : List Value} {Q : Option Value → Shared → Prop} (X : K.In s.heap) (I : PySem.W.InstAt s.heap x ox C od) (hs : PySem.W.findIn K (.ref C) "__ne__" = some (some (.builtin "object.__ne__")))
    (h : wpAny M A (call (.builtin "object.__ne__") (.ref x :: args)) (fun v => Q (some v)) E s) : wpAny M A (callSpecialIfBound? (.ref x) "__ne__" args) Q E s := by
  simp only [callSpecialIfBound?, bindSpecialIfBound?]
  refine wpAny_holding (wpAny_bind (wpAny_bind (wpAny_bind (I.type.here ((PySem.W.looks_findIn X hs).here ?_)))))
  refine wpAny_bind (wpAny_askSetting (wpAny_ite ?_))
  have fin : wpAny M A (call (.builtin "object.__ne__") ([.ref x] ++ args) >>= fun v => pure (some v)) Q E s := wpAny_bind (wpAny_mono h (fun v s' h' => wpAny_pure h') fun _ _ h' => h')
  split
  · exact wpAny_bind (wpAny_of_eq (F.cmp_object.ne.bind _) (wpAny_pure (by exact fin)))
  · exact wpAny_tryCatch (wpAny_bind (wpAny_of_eq (F.cmp_object.ne.bind _) (wpAny_pure (by exact fin))))
theorem ne_own {Q : Value → Shared → Prop} (hu : A.units + 1 < cLine) (X : K.In s.heap) (I : PySem.W.InstAt s.heap x ox C od) (hb : PySem.W.Looks (model prog w) s.heap (typeOf b) tb) (hn : PySem.W.notFirst K C tb = true)
    (hm : PySem.W.mroIn K C (.type "object") = some true) (hne : PySem.W.findIn K (.ref C) "__ne__" = some (some (.builtin "object.__ne__")))
    (hs : PySem.W.findIn K (.ref C) "__eq__" = some (some (.ref f))) (hf : PySem.W.isFn K (.ref f) = true)
    (h : wpAny (model prog w) A.in1 (call (.ref f) [.ref x, b]) (fun v s' => ∃ r, v = .bool r ∧ Q (.bool (!r)) s') E s) : wpAny (model prog w) A (richCompare .NotEq (.ref x) b) Q E s := by
  have one : wpAny (model prog w) A (tryCompare (.ref x) "__ne__" b) (fun r s' => ∃ v, r = some v ∧ Q v s') E s := by
    unfold tryCompare
    refine wpAny_bind (ifBound_objNe X I hne (wpAny_call (codeAny_call_builtin F.cmp_object.ne.plain F.cmpEntry_ne (PySem.W.check_slot F.cmpKind_ne F.cmpSplit_ne (I.type.andThen (PySem.W.looks_mroIn X hm)) (F.cmpArgs_ne _ _)
      (entry_neOwn (A := A.in1) hu X I hs hf (wpAny_mono h (fun v s' hv => ?_) fun _ _ e => e))))))
    obtain ⟨r, rfl, hq⟩ := hv
    first | exact ⟨r, rfl, wpAny_pure ⟨_, rfl, hq⟩⟩ | exact ⟨r, rfl, ⟨_, rfl, hq⟩⟩
  simp only [richCompare, cmpInfo_NotEq, oneThing_ref]
  refine wpAny_holding (wpAny_bind (wpAny_cRoomFor (Nat.lt_of_succ_lt hu) ?_))
  refine wpAny_bind (I.type.here (wpAny_bind (hb.here ?_)))
  split
  · rename_i q
    have e : PySem.W.subIn K tb (.ref C) = some false := by
      rcases Bool.or_eq_true_iff.mp hn with e | e
      · rw [beq_iff_eq.mp e] at q; simp at q
      · exact beq_iff_eq.mp e
    refine wpAny_bind ((PySem.W.looks_subIn X e).here ?_)
    simp only [Bool.false_eq_true, if_false]
    refine wpAny_bind (m := tryCompare (.ref x) _ b) (wpAny_mono one (fun r s' z => ?_) fun _ _ e => e)
    obtain ⟨v, rfl, hq⟩ := z
    exact wpAny_pure hq
  · refine wpAny_bind (wpAny_pure ?_)
    simp only [Bool.false_eq_true, if_false]
    refine wpAny_bind (m := tryCompare (.ref x) _ b) (wpAny_mono one (fun r s' z => ?_) fun _ _ e => e)
    obtain ⟨v, rfl, hq⟩ := z
    exact wpAny_pure hq
end
end HN
namespace LH
open PySem L2 PyProof.Rows
/-- two objects of the class at C: what the own == promises of them -/
def rNeOwn (C : Addr) (sp : Sp) : R2 := fun x y H Q => ∃ a b dx dy fs gs, x = .ref a ∧ y = .ref b ∧ H a = some (.ins C dx fs) ∧ H b = some (.ins C dy gs) ∧ sp [x, y] H (fun v H' => ∃ r, v = .bl r ∧ Q (.bl (!r)) H') E0
def rEqOwn (C : Addr) (sp : Sp) : R2 := fun x y H Q => ∃ a b dx dy fs gs, x = .ref a ∧ y = .ref b ∧ H a = some (.ins C dx fs) ∧ H b = some (.ins C dy gs) ∧ sp [x, y] H (fun v H' => ∃ r, v = .bl r ∧ Q (.bl r) H') E0
structure OwnEq (K : PySem.W.Frag) (C f : Addr) : Prop where
  eq : PySem.W.findIn K (.ref C) "__eq__" = some (some (.ref f))
  fn : PySem.W.isFn K (.ref f) = true
  ne : PySem.W.findIn K (.ref C) "__ne__" = some (some (.builtin "object.__ne__"))
  mro : PySem.W.mroIn K C (.type "object") = some true
section
variable {X : Cx} {C f : Addr} {fd : FuncData} {ps : List Str} {n : Nat} {sp : Sp}
/-- the own == runs below -/
theorem own_call (F : FnOk X.prog X.w X.K X.mg X.base CX0 n f fd ps sp) (hb : Binds X.K fd ps []) {A : Around} (sb : Sub X n A) {pins : List (Addr × Obj)} {σ : L2.St} {H : Hp} {s : Shared} (I : Inv X pins σ H s) {us : List Value} {vs : List V} (r : Vals vs us) {Q : VK}
    (h : sp vs H Q E0) : wpAny (model X.prog X.w) A (call (.ref f) us) (EP X pins σ Q) X.xe s := by
  have e0 : Env0 X.prog X.w X.K X.mg X.base A X.stack s H := by
    have e := I.env0
    exact ⟨by rw [sb.fr]; exact e.frames, e.mod, e.bs, e.bsz, e.funs, e.frf, e.hok, e.bare⟩
  have hl : us.length = ps.length := by rw [← r.length]; exact F.len _ _ _ _ h
  refine wpAny_call (codeAny_mono (F.run A X.stack s H ⟨us, []⟩ us vs Q E0 sb.room e0 (by
    have := hb s us I.kIn (by simpa using hl)
    simpa using this) r h) fun r s' hq => ?_)
  cases r with
  | error e => exact hq.elim
  | ok fl =>
    cases fl with
    | ret w => exact I.after hq
    | next => exact False.elim hq
    | brk => exact False.elim hq
    | cont => exact False.elim hq
theorem op_neOwn (F : FnOk X.prog X.w X.K X.mg X.base CX0 n f fd ps sp) (o : OwnEq X.K C f) (hb : Binds X.K fd ps []) (hr : Room (n + 1) X.A) : OpR X (compareOp .NotEq) (rNeOwn C sp) := by
  intro pins s σ H x y v u Q I rx ry h
  obtain ⟨a, b, dx, dy, fs, gs, rfl, rfl, ha, hb', q⟩ := h
  cases rx
  cases ry
  obtain ⟨mA, J, _⟩ := ins_get I.hok ha
  obtain ⟨mB, J', _⟩ := ins_get I.hok hb'
  obtain ⟨od, J, _⟩ := J.look
  obtain ⟨od', J', _⟩ := J'.look
  have sb : Sub X (n + 1) X.A := ⟨hr, rfl⟩
  show wpAny _ _ (richCompare .NotEq _ _) _ _ _
  refine HN.ne_own (by have := hr.units; omega) I.kIn J J'.type (by simp [PySem.W.notFirst]) o.mro o.ne o.eq o.fn ?_
  refine wpAny_mono (own_call F hb sb.in1 I (show Vals [V.ref a, V.ref b] [Value.ref a, Value.ref b] from .cons rfl (.cons rfl .nil)) q) (fun v s' hv => ?_) fun _ _ e => e
  obtain ⟨z, H', I', rz, r, ez, q'⟩ := hv
  subst ez
  cases rz
  exact ⟨r, rfl, .bl _, H', I', rfl, q'⟩
theorem op_eqOwn (F : FnOk X.prog X.w X.K X.mg X.base CX0 n f fd ps sp) (o : OwnEq X.K C f) (hb : Binds X.K fd ps []) (hr : Room n X.A) : OpR X (compareOp .Eq) (rEqOwn C sp) := by
  intro pins s σ H x y v u Q I rx ry h
  obtain ⟨a, b, dx, dy, fs, gs, rfl, rfl, ha, hb', q⟩ := h
  cases rx
  cases ry
  obtain ⟨mA, J, _⟩ := ins_get I.hok ha
  obtain ⟨mB, J', _⟩ := ins_get I.hok hb'
  obtain ⟨od, J, _⟩ := J.look
  obtain ⟨od', J', _⟩ := J'.look
  obtain ⟨m, hF⟩ := I.fr
  have sb : Sub X n X.A := ⟨hr, rfl⟩
  show wpAny _ _ (richCompare .Eq _ _) _ _ _
  refine PySem.W.cmp_K (op := .Eq) (tb := .ref C) hr.units0 hF I.ok.mod.kin J J'.type (by simp [PySem.W.notFirst]) o.eq o.fn ?_
  refine wpAny_mono (own_call F hb sb I (show Vals [V.ref a, V.ref b] [Value.ref a, Value.ref b] from .cons rfl (.cons rfl .nil)) q) (fun v s' hv => ?_) fun _ _ e => e
  obtain ⟨z, H', I', rz, r, ez, q'⟩ := hv
  subst ez
  cases rz
  exact ⟨.bl _, H', I', rfl, q'⟩
end
/-- what isinstance asks of an own class -/
structure IsC (K : PySem.W.Frag) (C : Addr) : Prop where
  cls : PySem.W.findIn K (.ref C) "__class__" = some (some (.builtin "object.__class__"))
  get : PySem.W.specialIn K (.builtin "object.__class__") "__get__" = some (some (.builtin "getset_descriptor.__get__"))
  tk : PySem.W.takesIn K (.builtin "object.__class__") = some true
  mro : PySem.W.mroIn K C (.type "object") = some true
theorem IsC.ty {K : PySem.W.Frag} {H : Hp} {a C dx : Addr} {fs : List (Str × V)} (i : IsC K C) (h : H a = some (.ins C dx fs)) (cl : Cls K C) : TyX K H (.ref a) (.ref C) := .base (.ins h cl i.cls i.get i.tk i.mro)
theorem kit_self {K : PySem.W.Frag} {C : Addr} : PySem.W.kitOne K (.ref C) (.ref C) = some true := by
  unfold PySem.W.kitOne
  rw [if_pos (by simp)]
theorem Gd.shaped {d : PyData} (h : Gd 4 1000 d) : SeqAt.shaped d = true := by
  simp only [SeqAt.shaped, Bool.and_eq_true, decide_eq_true_eq]
  have := h.dep
  exact ⟨h.lay, by omega⟩
/-- two objects of one sort -/
def SameSort (C : Addr) (a b : Addr) (H : Hp) : Prop := ∃ S, SOk S ∧ SortO C (fun _ => False) H (.ref a) S ∧ SortO C (fun _ => False) H (.ref b) S
theorem SameSort.ext {C a b : Addr} {H H' : Hp} (e : Ext H H') (h : SameSort C a b H) : SameSort C a b H' := by
  obtain ⟨S, ok, h1, h2⟩ := h
  exact ⟨S, ok, h1.same e, h2.same e⟩
def SameStreet (CS CT : Addr) (a b : Addr) (H : Hp) : Prop := ∃ D, TOk D ∧ StreetO CS CT (fun _ => False) H (.ref a) D ∧ StreetO CS CT (fun _ => False) H (.ref b) D
theorem op_eqLO {X : Cx} {C f : Addr} {fd : FuncData} {ps : List Str} {n : Nat} (F : FnOk X.prog X.w X.K X.mg X.base CX0 n f fd ps (spEq (SameSort C))) (o : OwnEq X.K C f) (hb : Binds X.K fd ps []) (hr : Room (n + 1) X.A) : OpR X (compareOp .Eq) (rEqG (DList (DIns C (SameSort C)))) :=
  op_eqG (rcG_list (mon_ins fun _ _ _ _ e h => SameSort.ext e h) (eqG_ins (E := E0) F o.eq o.fn hb pass0)) hr
end LH
end
section
set_option maxRecDepth 100000
set_option maxHeartbeats 4000000
namespace LH
open PySem L2 PyProof.Rows
/-! ### no list of names has both fresh and newone -/
def NotBoth (zs : List Str) : Prop := ¬ (("fresh" : Str) ∈ zs ∧ ("newone" : Str) ∈ zs)
theorem NotBoth.sub {zs ws : List Str} (h : NotBoth zs) (s : ∀ w ∈ ws, w ∈ zs) : NotBoth ws := fun ⟨a, b⟩ => h ⟨s _ a, s _ b⟩
theorem NotBoth.perm {zs ws : List Str} (h : NotBoth zs) (p : ws.Perm zs) : NotBoth ws := h.sub fun _ hw => p.mem_iff.mp hw
/-- a name of one family: all begin alike, or all that have a second letter have the same one -/
def Fam (base : Str) (at_ : Int) (z : Str) : Prop := (0 < at_ ∧ z.cps.toList.head? = base.cps.toList.head?) ∨ (at_ = 0 ∧ ∀ d, z.cps.toList[1]? = some d → base.cps.toList[1]? = some d)
theorem app_list (a b : Str) : (a ++ b).cps.toList = a.cps.toList ++ b.cps.toList := by
  show (a.cps ++ b.cps).toList = _
  rw [Array.toList_append]
theorem cut_list (z : Str) (lo hi : Option Int) : (cutS z lo hi).cps.toList = (z.cps.toList.drop (HT.sIx z.length 0 lo)).take (HT.sIx z.length z.length hi - HT.sIx z.length 0 lo) := by
  simp [cutS]
theorem head_take {α : Type} (l : List α) {n : Nat} (h : 0 < n) : (l.take n).head? = l.head? := by
  cases l with
  | nil => simp
  | cons x r =>
    cases n with
    | zero => omega
    | succ n => rfl
theorem fam_hd {base : Str} {at_ : Int} (h : 0 < at_) (h2 : at_ < base.length) : Fam base at_ (cutS base none (some at_)) := by
  refine Or.inl ⟨h, ?_⟩
  rw [cut_list]
  have e1 : HT.sIx base.length 0 none = 0 := rfl
  have e2 : HT.sIx base.length base.length (some at_) = at_.toNat := by
    show (if at_ < 0 then (at_ + (base.length : Int)).toNat else min at_.toNat base.length) = _
    rw [if_neg (by omega)]
    omega
  rw [e1, e2, List.drop_zero]
  exact head_take _ (by omega)
theorem fam_name {base tail : Str} {at_ : Int} {ch : Nat} {x : Int} (h0 : 0 ≤ at_) (h2 : at_ < base.length) (hx : 0 ≤ x) : Fam base at_ (cutS base none (some at_) ++ ⟨#[ch]⟩ ++ cutS (cutS base (some (at_ + 1)) none) none (some x)) := by
  by_cases c : 0 < at_
  · rcases fam_hd c h2 with ⟨_, e⟩ | ⟨e, _⟩
    · refine Or.inl ⟨c, ?_⟩
      rw [app_list, app_list, List.append_assoc, ← e]
      have hl : (cutS base none (some at_)).length = at_.toNat := cutS_to h0 (by omega)
      have hne : (cutS base none (some at_)).cps.toList ≠ [] := by
        intro z
        have : (cutS base none (some at_)).cps.toList.length = at_.toNat := hl
        rw [z] at this
        simp at this
        omega
      cases q : (cutS base none (some at_)).cps.toList with
      | nil => exact absurd q hne
      | cons a r => rfl
    · omega
  · have c0 : at_ = 0 := by omega
    refine Or.inr ⟨c0, fun d hd => ?_⟩
    subst c0
    rw [app_list, app_list] at hd
    have hl : (cutS base none (some 0)).cps.toList.length = 0 := cutS_to (z := base) (Int.le_refl 0) (by omega)
    rw [List.eq_nil_of_length_eq_zero hl] at hd
    have hd1 : (cutS (cutS base (some (0 + 1)) none) none (some x)).cps.toList[0]? = some d := hd
    rw [cut_list, List.getElem?_take] at hd1
    split at hd1
    · have e0 : HT.sIx (cutS base (some (0 + 1)) none).length 0 none = 0 := rfl
      rw [e0, List.drop_zero, cut_list, List.getElem?_take] at hd1
      split at hd1
      · rw [List.getElem?_drop] at hd1
        have e1 : HT.sIx base.length 0 (some (0 + 1)) = min 1 base.length := by
          show (if ((0 : Int) + 1) < 0 then ((0 : Int) + 1 + (base.length : Int)).toNat else min ((0 : Int) + 1).toNat base.length) = _
          rw [if_neg (by decide)]
          rfl
        rw [e1, Nat.add_zero] at hd1
        have e2 : min 1 base.length = 1 := by omega
        rw [e2] at hd1
        exact hd1
      · cases hd1
    · cases hd1
theorem fam_notBoth {base : Str} {at_ : Int} {zs : List Str} (h : ∀ z ∈ zs, Fam base at_ z) : NotBoth zs := by
  rintro ⟨ha, hb⟩
  have f1 : ("fresh" : Str).cps.toList = [102, 114, 101, 115, 104] := by decide +kernel
  have f2 : ("newone" : Str).cps.toList = [110, 101, 119, 111, 110, 101] := by decide +kernel
  rcases h _ ha with ⟨c, e⟩ | ⟨c, e⟩
  · rcases h _ hb with ⟨_, e'⟩ | ⟨c', _⟩
    · rw [← e', f1, f2] at e
      simp at e
    · omega
  · rcases h _ hb with ⟨c', _⟩ | ⟨_, e'⟩
    · omega
    · have a1 := e 114 (by rw [f1]; rfl)
      have a2 := e' 101 (by rw [f2]; rfl)
      rw [a1] at a2
      simp at a2
end LH
end
section
set_option maxRecDepth 100000
set_option maxHeartbeats 4000000
namespace GQ
open PySem PySem.SeqAt
open AutoSeq1 (wpAny_loadPart')
open MeetsSeq MeetsSeq2 MeetsSeq3 SeqRoads2
section
variable {prog : Program} {w : World} {A : Around} {R : Result → Shared → Prop}
/-- at each turn the two lists are read anew; the i-th two are equal, or not, and then J holds -/
def ListB (prog : Program) (w : World) (A : Around) (E : Value → Shared → Prop) (l b : Addr) (N : Nat) (I : Nat → Shared → Prop) (J : Shared → Prop) : Prop :=
  ∀ i s, I i s → ∃ (items items2 : Array Value) (n n2 : Nat), s.heap.get? l = some { cls := .type "list", data := .seq items n } ∧ s.heap.get? b = some { cls := .type "list", data := .seq items2 n2 } ∧ items.size = N ∧ items2.size = N ∧
    ∀ (h1 : i < items.size) (h2 : i < items2.size), wpAny (model prog w) A.in1 (eqBool items[i] items2[i]) (fun r s' => (r = true ∧ I (i + 1) s') ∨ (r = false ∧ J s' ∧ I 0 s')) E s
theorem eq_loopB (l b : Addr) (N : Nat) (I : Nat → Shared → Prop) (J : Shared → Prop) (hl : ListB prog w A (fun e s' => R (.error e) s') l b N I J)
    (fin : ∀ s, I N s → R (.ok (.ret (.bool true))) s) (fin2 : ∀ s, J s → R (.ok (.ret (.bool false))) s) (k : Nat) :
    ∀ i : Nat, N - i = k → i ≤ N → ∀ s, I i s →
      wpAny (model prog w) A.in1 (Builtin.«list.__eq__.loop» ⟨[.ref l, .ref b, rawInt i, rawInt 2], []⟩) (FinOf prog w A R) (fun e s' => R (.error e) s') s := by
  induction k with
  | zero =>
    intro i hk hi s h
    obtain ⟨items, items2, n, n2, hl1, hb1, hs1, hs2, _⟩ := hl _ _ h
    have hi' : i = N := by omega
    have hR : R (.ok (.ret (.bool true))) s := fin s (hi' ▸ h)
    obtain ⟨hp, g, d, tk, os⟩ := s
    wp_walk using wpAny_loadPart' hl1, wpAny_loadPart' hb1
    have hi1 : items[((i : Nat) : Int).toNat]? = none := by simp; omega
    have hi2 : items2[((i : Nat) : Int).toNat]? = none := by simp; omega
    rw [hi1, hi2]
    wp_walk using wpAny_loadPart' hl1, wpAny_loadPart' hb1
    show R (.ok (.ret (.bool (items.size == items2.size)))) _
    rw [hs1, hs2]
    simpa using hR
  | succ k ih =>
    intro i hk hi s h
    obtain ⟨items, items2, n, n2, hl1, hb1, hs1, hs2, turn⟩ := hl _ _ h
    have hlt : i < items.size := by omega
    have hlt2 : i < items2.size := by omega
    have ht := turn hlt hlt2
    obtain ⟨hp, g, d, tk, os⟩ := s
    wp_walk using wpAny_loadPart' hl1, wpAny_loadPart' hb1
    have hi1 : items[((i : Nat) : Int).toNat]? = some items[i] := by simp [hlt]
    have hi2 : items2[((i : Nat) : Int).toNat]? = some items2[i] := by simp [hlt2]
    have hc : ((i : Int) + 1) = ((i + 1 : Nat) : Int) := by omega
    rw [hi1, hi2]
    refine wpAny_bind (wpAny_mono ht (fun r s2 h2 => ?_) fun _ _ x => x)
    rcases h2 with ⟨hr, h2⟩ | ⟨hr, hj, h2⟩
    · subst hr
      have hrec := ih (i + 1) (by omega) (by omega) s2 h2
      obtain ⟨hp2, g2, d2, tk2, os2⟩ := s2
      wp_walk
      rw [hc]
      exact ⟨plainId_quiet plain_eq_loop _, codeAny_builtin entry_eq_loop (by
        rw [Around.under_plainId plain_eq_loop _]
        exact hrec)⟩
    · subst hr
      obtain ⟨items', items2', n', n2', hl1', hb1', hs1', hs2', _⟩ := hl _ _ h2
      have hF := fin2 s2 hj
      obtain ⟨hp2, g2, d2, tk2, os2⟩ := s2
      wp_walk using wpAny_loadPart' hl1', wpAny_loadPart' hb1'
      have hj1 : items'[((i : Nat) : Int).toNat]? = some (items'[i]'(by omega)) := by
        have : i < items'.size := by omega
        simp [this]
      have hj2 : items2'[((i : Nat) : Int).toNat]? = some (items2'[i]'(by omega)) := by
        have : i < items2'.size := by omega
        simp [this]
      rw [hj1, hj2]
      wp_walk
      exact hF
theorem list_eqB (l b : Addr) (N : Nat) (I : Nat → Shared → Prop) (J : Shared → Prop) (hl : ListB prog w A (fun e s' => R (.error e) s') l b N I J)
    (fin : ∀ s, I N s → R (.ok (.ret (.bool true))) s) (fin2 : ∀ s, J s → R (.ok (.ret (.bool false))) s) {s : Shared} (h : I 0 s) :
    wpAny (model prog w) A.in1 (Builtin.«list.__eq__» ⟨[.ref l, .ref b], []⟩) (FinOf prog w A R) (fun e s' => R (.error e) s') s := by
  obtain ⟨items, items2, n, n2, hl1, hb1, hs1, hs2, _⟩ := hl _ _ h
  have hrec := eq_loopB (A := A) (R := R) l b N I J hl fin fin2 _ 0 rfl (Nat.zero_le _) s h
  obtain ⟨hp, g, d, tk, os⟩ := s
  have f3 := AutoSeq1.sub_list_list
  have hne : ¬ (items.size != items2.size) = true := by simp [hs1, hs2]
  wp_walk using wpAny_loadPart' hl1, wpAny_loadPart' hb1
  exact ⟨plainId_quiet plain_eq_loop _, codeAny_builtin entry_eq_loop (by
    rw [Around.under_plainId plain_eq_loop _]
    exact hrec)⟩
theorem rc_listB {E : Value → Shared → Prop} {s : Shared} {l b : Addr} {N : Nat} {Q : Value → Shared → Prop} (hu : A.units < cLine) (I : Nat → Shared → Prop) (J : Shared → Prop) (hl : ListB prog w A E l b N I J)
    (fin : ∀ s, I N s → Q (.bool true) s) (fin2 : ∀ s, J s → Q (.bool false) s) (h : I 0 s) : wpAny (model prog w) A (richCompare .Eq (.ref l) (.ref b)) Q E s := by
  obtain ⟨items, items2, n, n2, hl1, hb1, _, _, _⟩ := hl _ _ h
  refine wpAny_richCompare_same_room (op := .Eq) ⟨_, hl1, rfl⟩ ⟨_, hb1, rfl⟩ F.slot_list_eq (call_here F.slot_list_eq ⟨_, hl1, rfl⟩ F.entry_list_eq (F.args_list_eq_2 _ _) ?_) hu
  exact list_eqB (R := wants (fun v s' => v ≠ .notImplemented ∧ Q v s') E) l b N I J hl (fun s' q => ⟨(fun x => nomatch x), fin s' q⟩) (fun s' q => ⟨(fun x => nomatch x), fin2 s' q⟩) h
end
end GQ
namespace LH
open PySem L2 PyProof.Rows
/-- an own == that says r of two objects -/
def spEqB (R : Addr → Addr → Bool → Hp → Prop) : Sp := fun vs H Q _ => ∃ a b r, vs = [.ref a, .ref b] ∧ R a b r H ∧ ∀ H', Ext H H' → Q (.bl r) H'
def InsTwo (C : Addr) (R : Addr → Addr → Bool → Hp → Prop) (H : Hp) (x y : V) (r : Bool) : Prop := ∃ p q dx dy fs gs, x = .ref p ∧ y = .ref q ∧ H p = some (.ins C dx fs) ∧ H q = some (.ins C dy gs) ∧ R p q r H
def rEqLB (C : Addr) (R : Addr → Addr → Bool → Hp → Prop) : R2 := fun x y H Q => ∃ a b xs ys, x = .ref a ∧ y = .ref b ∧ H a = some (.lst xs) ∧ H b = some (.lst ys) ∧
  ((xs.length ≠ ys.length ∧ Q (.bl false) H) ∨ (xs.length = ys.length ∧ ∃ f : Nat → Bool, (∀ i v w, xs[i]? = some v → ys[i]? = some w → InsTwo C R H v w (f i)) ∧ ∀ H', Ext H H' → Q (.bl ((List.range xs.length).all f)) H'))
section
variable {X : Cx} {C f : Addr} {fd : FuncData} {ps : List Str} {n : Nat} {R : Addr → Addr → Bool → Hp → Prop}
/-- one item beside one item -/
theorem eqB_turn (F : FnOk X.prog X.w X.K X.mg X.base CX0 n f fd ps (spEqB R)) (o : OwnEq X.K C f) (hb : Binds X.K fd ps []) (hs : ∀ a r H, R a a r H → r = true)
    {A : Around} (sb : Sub X n A) {pins : List (Addr × Obj)} {σ : L2.St} {H : Hp} {s : Shared} (I : Inv X pins σ H s) {x y : V} {u v : Value} (rx : RelV x u) (ry : RelV y v) {r : Bool} (d : InsTwo C R H x y r) :
    wpAny (model X.prog X.w) A (eqBool u v) (fun r' s' => r' = r ∧ LoopI X pins σ H s') X.xe s := by
  obtain ⟨p, q, dx, dy, fs, gs, rfl, rfl, hp, hq, hr⟩ := d
  cases rx
  cases ry
  by_cases c : p = q
  · subst c
    have e := hs _ _ _ hr
    subst e
    exact SeqAt.EqAt.same (A := A) (s := s) (.ref p) X.prog X.w X.xe _ ⟨rfl, H, I, Ext.rfl'⟩
  · refine GQ.eqBool_refG c ?_
    obtain ⟨mA, J, _⟩ := ins_get I.hok hp
    obtain ⟨mB, J', _⟩ := ins_get I.hok hq
    obtain ⟨od, J, _⟩ := J.look
    obtain ⟨od', J', _⟩ := J'.look
    obtain ⟨m, hF⟩ := I.fr
    refine PySem.W.cmp_K (op := .Eq) (tb := .ref C) sb.room.units0 hF I.ok.mod.kin J J'.type (by simp [PySem.W.notFirst]) o.eq o.fn ?_
    refine wpAny_mono (own_call F hb sb I (show Vals [V.ref p, V.ref q] [Value.ref p, Value.ref q] from .cons rfl (.cons rfl .nil)) (Q := fun v H' => v = .bl r ∧ Ext H H') ⟨p, q, r, rfl, hr, fun H' e => ⟨rfl, e⟩⟩) (fun v s' hv => ?_) fun _ _ e => e
    obtain ⟨z, H', I', rz, ez, ex⟩ := hv
    subst ez
    cases rz
    exact ⟨r, rfl, rfl, H', I', ex⟩
theorem op_eqLB (hm : ∀ a b r H H', Ext H H' → R a b r H → R a b r H') (hs : ∀ a r H, R a a r H → r = true) (F : FnOk X.prog X.w X.K X.mg X.base CX0 n f fd ps (spEqB R)) (o : OwnEq X.K C f) (hb : Binds X.K fd ps []) (hr : Room (n + 1) X.A) : OpR X (compareOp .Eq) (rEqLB C R) := by
  intro pins s σ H x y v u Q I rx ry h
  obtain ⟨a, b, xs, ys, rfl, rfl, ha, hb', q⟩ := h
  cases rx
  cases ry
  rcases q with ⟨hne, q⟩ | ⟨hl, g, hg, q⟩
  · obtain ⟨i1, r1, p1, z1⟩ := I.list (SqL.of ha)
    obtain ⟨i2, r2, p2, z2⟩ := I.list (SqL.of hb')
    have e1 := r1.length
    have e2 := r2.length
    refine SeqAt.eq_list_lengthsAt (isL_of p1) (isL_of p2) (by simp; omega) hr.units0 ?_
    exact ⟨.bl _, H, I, rfl, q⟩
  · have sb : Sub X (n + 1) X.A := ⟨hr, rfl⟩
    refine GQ.rc_listB (N := xs.length) hr.units0 (fun i s' => LoopI X pins σ H s' ∧ ∀ j < i, g j = true) (fun s' => LoopI X pins σ H s' ∧ (List.range xs.length).all g = false) (fun i s' z => ?_) (fun s' z => ?_) (fun s' z => ?_) ⟨⟨H, I, Ext.rfl'⟩, fun j hj => absurd hj (Nat.not_lt_zero _)⟩
    · obtain ⟨⟨H1, I1, e1⟩, before⟩ := z
      obtain ⟨z1, its, k, r, e⟩ := I1.hok a _ (e1 _ _ ha)
      obtain ⟨z2, its2, k2, r2, e2⟩ := I1.hok b _ (e1 _ _ hb')
      refine ⟨its.toArray, its2.toArray, k, k2, e, e2, by rw [List.size_toArray, ← r.length], by rw [List.size_toArray, ← r2.length, ← hl], fun h1 h2 => ?_⟩
      have g1 : its[i]? = some its.toArray[i] := by
        have h1' : i < its.length := by simpa using h1
        rw [List.getElem?_eq_getElem h1'] <;> simp
      have g2 : its2[i]? = some its2.toArray[i] := by
        have h2' : i < its2.length := by simpa using h2
        rw [List.getElem?_eq_getElem h2'] <;> simp
      have k1 : i < xs.length := by rw [r.length]; simpa using h1
      have k2' : i < ys.length := by rw [r2.length]; simpa using h2
      obtain ⟨u, hu, ru⟩ := r.get (List.getElem?_eq_getElem k1)
      obtain ⟨v, hv, rv⟩ := r2.get (List.getElem?_eq_getElem k2')
      rw [g1] at hu
      rw [g2] at hv
      rw [Option.some.inj hu, Option.some.inj hv]
      obtain ⟨p, q', dx, dy, fs, gs, ep, eq', hp, hq, hrr⟩ := hg i _ _ (List.getElem?_eq_getElem k1) (List.getElem?_eq_getElem k2')
      have d : InsTwo C R H1 xs[i] ys[i] (g i) := ⟨p, q', dx, dy, fs, gs, ep, eq', e1 _ _ hp, e1 _ _ hq, hm _ _ _ _ _ e1 hrr⟩
      refine wpAny_mono (eqB_turn F o hb hs sb.in1 I1 ru rv d) (fun r' s2 z => ?_) fun _ _ x => x
      obtain ⟨hr', H2, I2, e3⟩ := z
      cases c : g i with
      | true =>
        rw [c] at hr'
        refine Or.inl ⟨hr', ⟨H2, I2, e1.trans e3⟩, fun j hj => ?_⟩
        by_cases cj : j = i
        · rw [cj]; exact c
        · exact before j (by omega)
      | false =>
        rw [c] at hr'
        refine Or.inr ⟨hr', ⟨⟨H2, I2, e1.trans e3⟩, ?_⟩, ⟨H2, I2, e1.trans e3⟩, fun j hj => absurd hj (Nat.not_lt_zero _)⟩
        rw [List.all_eq_false]
        exact ⟨i, List.mem_range.mpr k1, by rw [c]; exact Bool.false_ne_true⟩
    · obtain ⟨⟨H1, I1, e1⟩, all⟩ := z
      have e : (List.range xs.length).all g = true := by
        rw [List.all_eq_true]
        exact fun j hj => all j (List.mem_range.mp hj)
      have q1 := q H1 e1
      rw [e] at q1
      exact ⟨.bl true, H1, I1, rfl, q1⟩
    · obtain ⟨⟨H1, I1, e1⟩, e⟩ := z
      have q1 := q H1 e1
      rw [e] at q1
      exact ⟨.bl false, H1, I1, rfl, q1⟩
end
end LH
end
section
set_option maxRecDepth 100000
set_option maxHeartbeats 4000000
namespace LH
open PySem L2 PyProof.Rows
def SData.same (S S' : SData) : Bool := PyData.eqv (.list (S.rooms.map PyData.str)) (.list (S'.rooms.map PyData.str)) && PyData.eqv (.list (S.doors.map doorD)) (.list (S'.doors.map doorD))
theorem SData.same_refl {S : SData} (ok : SOk S) : S.same S = true := by
  unfold SData.same
  rw [SeqAt.eqv_refl _ (Gd.rooms ok.rn ok.rl.2).lay, SeqAt.eqv_refl _ (Gd.doors ok.small ok.dl).lay]
  rfl
theorem strs_inj : ∀ {a b : List Str}, a.map V.str = b.map V.str → a = b
  | [], [], _ => rfl
  | [], _ :: _, h => nomatch h
  | _ :: _, [], h => nomatch h
  | x :: a, y :: b, h => by
    simp only [List.map_cons, List.cons.injEq, V.str.injEq] at h
    rw [h.1, strs_inj h.2]
theorem doors_inj {H : Hp} : ∀ {ts : List V} {ds es : List Door}, DoorsAt H ts ds → DoorsAt H ts es → ds = es
  | _, _, _, .nil, .nil => rfl
  | _, _, _, .cons (b := d) r t, .cons (b := e) r' t' => by
    obtain ⟨a, rfl, h1⟩ := r
    obtain ⟨a', e1, h2⟩ := r'
    cases e1
    rw [h1] at h2
    have z := HO.tup.inj (Option.some.inj h2)
    simp only [doorV, List.cons.injEq, V.str.injEq, V.int.injEq, and_true] at z
    obtain ⟨z1, z2, z3, z4, z5⟩ := z
    rw [doors_inj t t']
    cases d; cases e
    simp only at z1 z2 z3 z4 z5
    subst z1 z2 z3 z4 z5
    rfl
theorem SortO.inj {C : Addr} {av av' : Addr → Prop} {H : Hp} {v : V} {S S' : SData} (h : SortO C av H v S) (h' : SortO C av' H v S') : S = S' := by
  obtain ⟨x, dx, ra, da, ts, rfl, _, h1, h2, h3, h4⟩ := h
  obtain ⟨y, dy, rb, db, us, e, _, q1, q2, q3, q4⟩ := h'
  obtain rfl := V.ref.inj e
  rw [h1] at q1
  injection q1 with q1
  injection q1 with _ _ q1
  have er : ra = rb := by
    have a1 := sortF_rooms ra da
    rw [q1, sortF_rooms] at a1
    exact (V.ref.inj (Option.some.inj a1)).symm
  have ed : da = db := by
    have a1 := sortF_doors ra da
    rw [q1, sortF_doors] at a1
    exact (V.ref.inj (Option.some.inj a1)).symm
  subst er ed
  rw [h2] at q2
  rw [h3] at q3
  have e2 := strs_inj (HO.lst.inj (Option.some.inj q2))
  have e3 := HO.lst.inj (Option.some.inj q3)
  subst e3
  have e4 := doors_inj h4 q4
  cases S; cases S'
  simp only at e2 e4
  subst e2 e4
  rfl
def pairSame (xs ys : List SData) (i : Nat) : Bool := match xs[i]?, ys[i]? with
  | some S, some S' => S.same S'
  | _, _ => true
def oddSame (xs ys : List SData) : Bool := decide (xs.length = ys.length) && (List.range xs.length).all (pairSame xs ys)
def TData.same (D D' : TData) : Bool := decide (D.first = D'.first) && (D.left.same D'.left && (oddSame D.odd D'.odd && D.right.same D'.right))

/-! ### sorts and streets as dicts, compared -/
theorem SortAt.inj {av av' : Addr → Prop} {H : Hp} {v : V} {S S' : SData} (h : SortAt av H v S) (h' : SortAt av' H v S') : S = S' := by
  obtain ⟨a, ra, da, ts, rfl, _, h1, h2, h3, h4⟩ := h
  obtain ⟨b, rb, db, us, e, _, q1, q2, q3, q4⟩ := h'
  obtain rfl := V.ref.inj e
  rw [h1] at q1
  have q := HO.dK.inj (Option.some.inj q1)
  simp only [sortK, List.cons.injEq, Prod.mk.injEq, V.ref.injEq, true_and, and_true] at q
  obtain ⟨er, ed⟩ := q
  subst er ed
  rw [h2] at q2
  rw [h3] at q3
  have e2 := strs_inj (HO.lst.inj (Option.some.inj q2))
  have e3 := HO.lst.inj (Option.some.inj q3)
  subst e3
  have e4 := doors_inj h4 q4
  cases S; cases S'
  simp only at e2 e4
  subst e2 e4
  rfl
section
variable {X : Cx} {pins : List (Addr × Obj)} {σ : L2.St} {H : Hp} {s : Shared}
theorem data_eqP (I : Inv X pins σ H s) {A : Around} (hu : A.units + 10 < cLine) {x y : V} {u v : Value} {d e : PyData} (hd : Dp X.K H x d) (he : Dp X.K H y e) (gd : Gd 4 1000 d) (ge : Gd 4 1000 e) (rx : RelV x u) (ry : RelV y v) : SeqAt.EqP X.prog X.w A s u v (PyData.eqv d e) := by
  obtain ⟨as, r1⟩ := Dp.reads I d x u hd rx
  obtain ⟨bs, r2⟩ := Dp.reads I e y v he ry
  have h1 := gd.dep
  exact (SeqAt.eqAt_reads d e A s u v as bs r1 r2 gd.lay ge.lay (by have := Nat.min_le_left d.depth e.depth; omega)).eqP
theorem hit1 {K : Type} [DecidableEq K] {prog : Program} {w : World} {A : Around} {kb : List (K × Value)} {k : K} {v : Value} {r : List (K × Value)} {e b : Bool} {o : Option V} {y : V} (ho : o = some y) (h : RelO o (valueAt kb k)) (q : ∀ u, RelV y u → SeqAt.EqP prog w A s v u e) (t : PySem.W.KeqHitsP prog w A s kb r b) :
    PySem.W.KeqHitsP prog w A s kb ((k, v) :: r) (e && b) := by
  subst ho
  obtain ⟨u, hu, ru⟩ := h.some_of
  exact .hit hu (q u ru) t
theorem sort_rcP (I : Inv X pins σ H s) {A : Around} (hu : A.units + 20 < cLine) {a b : Addr} {av av' : Addr → Prop} {S S' : SData} (ok : SOk S) (ok' : SOk S') (h : SortAt av H (.ref a) S) (h' : SortAt av' H (.ref b) S')
    (E Q : Value → Shared → Prop) (q : Q (.bool (S.same S')) s) : wpAny (model X.prog X.w) A (richCompare .Eq (.ref a) (.ref b)) Q E s := by
  obtain ⟨_, ra, da, ts, e, _, h1, h2, h3, h4⟩ := h
  obtain rfl := V.ref.inj e
  obtain ⟨_, rb, db, us, e, _, q1, q2, q3, q4⟩ := h'
  obtain rfl := V.ref.inj e
  obtain ⟨_, ya, va, ka, dda⟩ := (show ObjOk X.prog X.w H s.heap _ (.dK (sortK ra da)) from I.hok _ _ h1)
  obtain ⟨_, yb, vb, kb, ddb⟩ := (show ObjOk X.prog X.w H s.heap _ (.dK (sortK rb db)) from I.hok _ _ q1)
  have gr := (Gd.rooms ok.rn ok.rl.2).mono (k' := 4) (n' := 1000) (by decide) (by decide)
  have gd := (Gd.doors ok.small ok.dl).mono (k' := 4) (n' := 1000) (by decide) (by decide)
  have gr' := (Gd.rooms ok'.rn ok'.rl.2).mono (k' := 4) (n' := 1000) (by decide) (by decide)
  have gd' := (Gd.doors ok'.small ok'.dl).mono (k' := 4) (n' := 1000) (by decide) (by decide)
  have hu1 : A.in1.units + 10 < cLine := by show A.units + 1 + 10 < cLine; omega
  have l1 : va.length = 2 := ka.length.symm
  have l2 : vb.length = 2 := kb.length.symm
  refine PySem.W.rcP_dicts (knd := mixKind X.prog X.w) (r := S.same S' && true) ya yb dda ddb (by omega) (fun hlen => ?_) E Q ?_
  · have kb' := kb
    clear hlen l1 l2
    unfold KV sortK at ka
    cases ka with
    | cons c1 t1 =>
      cases t1 with
      | cons c2 t2 =>
        cases t2
        rename_i w1 w2
        obtain ⟨n1, u1⟩ := w1
        obtain ⟨n2, u2⟩ := w2
        obtain ⟨k1, r1⟩ := c1
        obtain ⟨k2, r2⟩ := c2
        have k1' : (Sum.inr "rooms" : Key) = n1 := k1
        have k2' : (Sum.inr "doors" : Key) = n2 := k2
        subst k1' k2'
        unfold SData.same
        rw [Bool.and_assoc]
        refine hit1 (sortK_rooms rb db) (kb'.val _) (fun u ru => ?_) (hit1 (sortK_doors rb db) (kb'.val _) (fun u ru => ?_) .nil)
        · exact data_eqP I hu1 (.lst (SqL.of h2) (strs_dp _)) (.lst (SqL.of q2) (strs_dp _)) gr gr' r1 ru
        · exact data_eqP I hu1 (.lst (SqL.of h3) (DoorsAt.all h4)) (.lst (SqL.of q3) (DoorsAt.all q4)) gd gd' r2 ru
  · rw [l1, l2, Bool.and_true]
    exact q
theorem sort_eqP (I : Inv X pins σ H s) {A : Around} (hu : A.units + 20 < cLine) {x y : V} {u v : Value} {av av' : Addr → Prop} {S S' : SData} (ok : SOk S) (ok' : SOk S') (h : SortAt av H x S) (h' : SortAt av' H y S') (rx : RelV x u) (ry : RelV y v) :
    SeqAt.EqP X.prog X.w A s u v (S.same S') := by
  have h0 := h
  have h0' := h'
  obtain ⟨a, _, _, _, rfl, _⟩ := h0
  obtain ⟨b, _, _, _, rfl, _⟩ := h0'
  cases rx
  cases ry
  by_cases c : a = b
  · subst c
    have e := h.inj h'
    subst e
    rw [SData.same_refl ok]
    exact (SeqAt.EqAt.same _).eqP
  · exact SeqAt.eqP_refs c (sort_rcP I hu ok ok' h h')
end
def rEqSort (K : PySem.W.Frag) : R2 := fun x y H Q => ∃ S S', SOk S ∧ SOk S' ∧ SortAt (fun _ => False) H x S ∧ SortAt (fun _ => False) H y S' ∧ Q (.bl (S.same S')) H
theorem op_eqSort {X : Cx} (hu : X.A.units + 64 < cLine) : OpR X (compareOp .Eq) (rEqSort X.K) := by
  intro pins s σ H x y v u Q I rx ry h
  obtain ⟨S, S', ok, ok', h1, h2, q⟩ := h
  have h10 := h1
  have h20 := h2
  obtain ⟨a, _, _, _, rfl, _⟩ := h10
  obtain ⟨b, _, _, _, rfl, _⟩ := h20
  cases rx
  cases ry
  exact sort_rcP I (by omega) ok ok' h1 h2 _ _ ⟨.bl _, H, I, rfl, q⟩
theorem sorts_inj {av av' : Addr → Prop} {H : Hp} : ∀ {vs : List V} {xs ys : List SData}, PySem.W.EachIs (SortAt av H) vs xs → PySem.W.EachIs (SortAt av' H) vs ys → xs = ys
  | _, _, _, .nil, .nil => rfl
  | _, _, _, .cons r t, .cons r' t' => by rw [SortAt.inj r r', sorts_inj t t']
theorem oddSame_refl {xs : List SData} (ok : ∀ S ∈ xs, SOk S) : oddSame xs xs = true := by
  unfold oddSame
  rw [decide_eq_true rfl, Bool.true_and, List.all_eq_true]
  intro i hi
  have h := List.mem_range.mp hi
  unfold pairSame
  rw [List.getElem?_eq_getElem h]
  exact SData.same_refl (ok _ (List.getElem_mem h))
section
variable {X : Cx} {pins : List (Addr × Obj)} {σ : L2.St} {H : Hp} {s : Shared}
theorem odd_eqP (I : Inv X pins σ H s) {A : Around} (hu : A.units + 30 < cLine) {a b : Addr} {u v : Value} {av av' : Addr → Prop} {vs ws : List V} {xs ys : List SData} (okx : ∀ S ∈ xs, SOk S) (oky : ∀ S ∈ ys, SOk S) (ha : H a = some (.lst vs)) (hb : H b = some (.lst ws))
    (h : PySem.W.EachIs (SortAt av H) vs xs) (h' : PySem.W.EachIs (SortAt av' H) ws ys) (rx : RelV (.ref a) u) (ry : RelV (.ref b) v) : SeqAt.EqP X.prog X.w A s u v (oddSame xs ys) := by
  cases rx
  cases ry
  by_cases c : a = b
  · subst c
    rw [ha] at hb
    obtain rfl := HO.lst.inj (Option.some.inj hb)
    have e := sorts_inj h h'
    subst e
    rw [oddSame_refl okx]
    exact (SeqAt.EqAt.same _).eqP
  · refine SeqAt.eqP_refs c fun E Q q => ?_
    obtain ⟨us, r1, p1, _⟩ := I.list (SqL.of ha)
    obtain ⟨vs', r2, p2, _⟩ := I.list (SqL.of hb)
    have l1 := Each.len h
    have l2 := Each.len h'
    have m1 := r1.length
    have m2 := r2.length
    unfold oddSame at q
    by_cases d : xs.length = ys.length
    · rw [decide_eq_true d, Bool.true_and] at q
      have hsz : us.toArray.size = vs'.toArray.size := by rw [List.size_toArray, List.size_toArray]; omega
      refine SeqAt.rcP_lists (e := pairSame xs ys) p1.isList p2.isList hsz (by omega) (fun j h1 h2 => ?_) E Q ?_
      · have j1 : j < us.length := by simpa using h1
        have j2 : j < vs'.length := by simpa using h2
        obtain ⟨u, hu', ru⟩ := r1.get (List.getElem?_eq_getElem (show j < vs.length by omega))
        obtain ⟨v, hv', rv⟩ := r2.get (List.getElem?_eq_getElem (show j < ws.length by omega))
        rw [List.getElem?_eq_getElem j1] at hu'
        rw [List.getElem?_eq_getElem j2] at hv'
        obtain ⟨hx, sx⟩ := Each.at h (i := j) (by omega)
        obtain ⟨hy, sy⟩ := Each.at h' (i := j) (by omega)
        have e : pairSame xs ys j = xs[j].same ys[j] := by
          unfold pairSame
          rw [List.getElem?_eq_getElem hx, List.getElem?_eq_getElem hy]
        rw [e]
        have z := sort_eqP I (A := A.in1) (by show A.units + 1 + 20 < cLine; omega) (okx _ (List.getElem_mem hx)) (oky _ (List.getElem_mem hy)) sx sy ru rv
        rw [← Option.some.inj hu', ← Option.some.inj hv'] at z
        simpa using z
      · rw [show us.toArray.size = xs.length by rw [List.size_toArray]; omega]
        exact q
    · rw [decide_eq_false d, Bool.false_and] at q
      exact SeqAt.RcAt.lists_lengths p1.isList p2.isList (by simp; omega) (by omega) _ _ _ _ q
theorem street_rcP (I : Inv X pins σ H s) {A : Around} (hu : A.units + 40 < cLine) {a b : Addr} {av av' : Addr → Prop} {D D' : TData} (ok : TOk D) (ok' : TOk D') (h : StreetAt av H (.ref a) D) (h' : StreetAt av' H (.ref b) D')
    (E Q : Value → Shared → Prop) (q : Q (.bool (D.same D')) s) : wpAny (model X.prog X.w) A (richCompare .Eq (.ref a) (.ref b)) Q E s := by
  obtain ⟨_, oa, lv, rv, os, e, _, h1, h2, h3, h4, h5⟩ := h
  obtain rfl := V.ref.inj e
  obtain ⟨_, ob, lw, rw', ot, e, _, q1, q2, q3, q4, q5⟩ := h'
  obtain rfl := V.ref.inj e
  obtain ⟨_, ya, va, ka, dda⟩ := (show ObjOk X.prog X.w H s.heap _ (.dK (streetK lv D.first oa rv)) from I.hok _ _ h1)
  obtain ⟨_, yb, vb, kb, ddb⟩ := (show ObjOk X.prog X.w H s.heap _ (.dK (streetK lw D'.first ob rw')) from I.hok _ _ q1)
  have hu1 : A.in1.units + 30 < cLine := by show A.units + 1 + 30 < cLine; omega
  have l1 : va.length = 4 := ka.length.symm
  have l2 : vb.length = 4 := kb.length.symm
  refine PySem.W.rcP_dicts (knd := mixKind X.prog X.w) (r := D.left.same D'.left && (decide (D.first = D'.first) && (oddSame D.odd D'.odd && (D.right.same D'.right && true)))) ya yb dda ddb (by omega) (fun hlen => ?_) E Q ?_
  · have kb' := kb
    clear hlen l1 l2
    unfold KV streetK at ka
    cases ka with
    | cons c1 t1 => cases t1 with
      | cons c2 t2 => cases t2 with
        | cons c3 t3 => cases t3 with
          | cons c4 t4 =>
            cases t4
            rename_i w1 w2 w3 w4
            obtain ⟨n1, u1⟩ := w1
            obtain ⟨n2, u2⟩ := w2
            obtain ⟨n3, u3⟩ := w3
            obtain ⟨n4, u4⟩ := w4
            obtain ⟨k1, r1⟩ := c1
            obtain ⟨k2, r2⟩ := c2
            obtain ⟨k3, r3⟩ := c3
            obtain ⟨k4, r4⟩ := c4
            have k1' : (Sum.inr "left" : Key) = n1 := k1
            have k2' : (Sum.inr "first" : Key) = n2 := k2
            have k3' : (Sum.inr "odd" : Key) = n3 := k3
            have k4' : (Sum.inr "right" : Key) = n4 := k4
            subst k1' k2' k3' k4'
            refine hit1 (streetK_left lw D'.first ob rw') (kb'.val _) (fun u ru => ?_) (hit1 (streetK_first lw D'.first ob rw') (kb'.val _) (fun u ru => ?_) (hit1 (streetK_odd lw D'.first ob rw') (kb'.val _) (fun u ru => ?_) (hit1 (streetK_right lw D'.first ob rw') (kb'.val _) (fun u ru => ?_) .nil)))
            · exact sort_eqP I (by omega) ok.l ok'.l h2 q2 r1 ru
            · have z := (eqAt_V (A := A.in1) (s := s) r2 ru rfl rfl).eqP (prog := X.prog) (w := X.w)
              exact z
            · exact odd_eqP I (by omega) ok.o ok'.o h4 q4 h5 q5 r3 ru
            · exact sort_eqP I (by omega) ok.r ok'.r h3 q3 r4 ru
  · rw [l1, l2]
    have e : (decide (4 = 4) : Bool) = true := rfl
    unfold TData.same at q
    have e2 : ((4 : Nat) == 4 && (D.left.same D'.left && (decide (D.first = D'.first) && (oddSame D.odd D'.odd && (D.right.same D'.right && true))))) = (decide (D.first = D'.first) && (D.left.same D'.left && (oddSame D.odd D'.odd && D.right.same D'.right))) := by
      cases D.left.same D'.left <;> cases decide (D.first = D'.first) <;> cases oddSame D.odd D'.odd <;> cases D.right.same D'.right <;> rfl
    rw [e2]
    exact q
end
def rEqStreet (K : PySem.W.Frag) : R2 := fun x y H Q => ∃ D D', TOk D ∧ TOk D' ∧ StreetAt (fun _ => False) H x D ∧ StreetAt (fun _ => False) H y D' ∧ Q (.bl (D.same D')) H
theorem op_eqStreet {X : Cx} (hu : X.A.units + 64 < cLine) : OpR X (compareOp .Eq) (rEqStreet X.K) := by
  intro pins s σ H x y v u Q I rx ry h
  obtain ⟨S, S', ok, ok', h1, h2, q⟩ := h
  have h10 := h1
  have h20 := h2
  obtain ⟨a, _, _, _, _, rfl, _⟩ := h10
  obtain ⟨b, _, _, _, _, rfl, _⟩ := h20
  cases rx
  cases ry
  exact street_rcP I (by omega) ok ok' h1 h2 _ _ ⟨.bl _, H, I, rfl, q⟩
def AccF (Pv : Nat → List V → Hp → Prop) (D : Addr) (k : Nat) (H : Hp) : Prop := ∃ acc, H D = some (.lst acc) ∧ Pv k acc H
/-- over a tuple, with a test -/
theorem s_lcTF {K : PySem.W.Frag} {σ : L2.St} {H : Hp} {i : Nat} {tt : TT} {te : TE} {a : Addr} {xs : List V} {f : Addr → Hp → Prop} (Pv : Addr → Nat → List V → Hp → Prop) (hx : SqT K H a xs) (h0 : ∀ D H', H D = none → Same H H' → H' D = some (.lst []) → Pv D 0 [] H') (hl : ∀ D k acc H', H D = none → Pv D k acc H' → SqT K H' a xs)
    (hs : ∀ D (k : Nat) acc x H', H D = none → xs[k]? = some x → H' D = some (.lst acc) → Pv D k acc H' → tt ((wipe σ [i]).set i (some x)) H' fun b H3 => if b = true then te ((wipe σ [i]).set i (some x)) H3 fun y H4 => rAcc D y H4 (AccF (Pv D) D (k + 1)) else AccF (Pv D) D (k + 1) H3)
    (hd : ∀ D acc H', H D = none → H' D = some (.lst acc) → Pv D xs.length acc H' → f D H') : rLcT K (gName i) tt te [i] σ (.ref a) H f := by
  refine ⟨a, rfl, ⟨xs, hx⟩, fun D hD => lc_tup (xs := xs) (AccF (Pv D) D) ⟨[], upd_same, h0 D _ hD (Same.new (Same.refl H) hD) upd_same⟩ (fun k H' _ p => ?_) ?_ ?_⟩
  · obtain ⟨acc, _, p⟩ := p
    exact hl D k acc H' hD p
  · rintro k x H' hk ⟨acc, hA, p⟩
    exact ⟨wipe_set, hs D k acc x H' hD hk hA p⟩
  · rintro H' ⟨acc, hA, p⟩
    exact hd D acc H' hD hA p
theorem s_accF {Pv : Nat → List V → Hp → Prop} {D : Addr} {k : Nat} {acc : List V} {y : V} {H : Hp} (e : H D = some (.lst acc)) (hk : acc.length < sizeLine) (q : ∀ H', Sb D H H' → H' D = some (.lst (acc ++ [y])) → Pv k (acc ++ [y]) H') : rAcc D y H (AccF Pv D k) :=
  ⟨acc, e, hk, acc ++ [y], upd_same, q _ ((Sb.refl D H).pen) upd_same⟩
theorem pi_listK {X : Cx} {K : PySem.W.Frag} {tg e : Expr} {tl : TE} (h : X.K = K) (he : PE X e tl) : PI X tg e (iList K tl) := h ▸ pi_list he
theorem op_in_seqK {X : Cx} {K : PySem.W.Frag} (h : X.K = K) : OpR X (compareOp .In) (rIn K false) := h ▸ op_in_seq
theorem op_notIn_seqK {X : Cx} {K : PySem.W.Frag} (h : X.K = K) : OpR X (compareOp .NotIn) (rIn K true) := h ▸ op_notIn_seq
end LH
end
section
set_option maxRecDepth 100000
set_option maxHeartbeats 4000000
namespace LH
open PySem PySem.Spec PyProof.Rows L2
/-! ### an exception kept behind its suite -/
/-- the object of an exception that was caught -/
def exH (cls : Value) (d : Option Addr) (a : Addr) : HO := .ext fun h => ∃ (oe : Obj) (vs : Array Value), h.get? a = some oe ∧ Zc cls d oe ∧ oe.data = .fields vs
theorem exH_ok {P : Program} {w : World} {H : Hp} {h : Heap} {a : Addr} {cls : Value} {d : Option Addr} {oe : Obj} {vs : Array Value} (e : h.get? a = some oe) (z : Zc cls d oe) (hd : oe.data = .fields vs) : ObjOk P w H h a (exH cls d a) :=
  ⟨⟨oe, vs, e, z, hd⟩, ⟨oe, e⟩, fun _ _ ⟨o, v, q, r⟩ k => ⟨o, v, k o q, r⟩⟩
theorem exH_at {P : Program} {w : World} {H : Hp} {h : Heap} {a : Addr} {cls : Value} {d : Option Addr} (ok : HOk P w H h) (e : H a = some (exH cls d a)) : ∃ (oe : Obj) (vs : Array Value), h.get? a = some oe ∧ Zc cls d oe ∧ oe.data = .fields vs := by
  have x : ObjOk P w H h a (.ext fun h => ∃ (oe : Obj) (vs : Array Value), h.get? a = some oe ∧ Zc cls d oe ∧ oe.data = .fields vs) := ok a _ e
  exact x.1
section
variable {X : Cx} {pins : List (Addr × Obj)} {σ : L2.St} {H : Hp} {s : Shared}
theorem track {a : Addr} {oe : Obj} {vs : Array Value} {cls : Value} {d : Option Addr} (I : Inv X pins σ H s) (ha : s.heap.get? a = some oe) (hz : Zc cls d oe) (hd : oe.data = .fields vs) (na : H a = none)
    (h0 : X.s_0.heap.get? a = none) (nL : a ≠ X.env.locals) (np : ∀ p ∈ X.pn ++ pins, p.1 ≠ a) : Inv X pins σ (upd H a (exH cls d a)) s := by
  have far : ∀ {b : Addr} {o : HO}, H b = some o → b ≠ a := fun q => ne_of_none q na
  have far0 : ∀ {b : Addr} {o : Obj}, X.s_0.heap.get? b = some o → b ≠ a := fun q z => by rw [z, h0] at q; cases q
  refine ⟨I.ok, I.os, I.bare, ⟨I.base.keep, I.base.slot, fun b o e n hx => ?_, I.base.there, fun b xs e => ?_, fun b o u e => ?_, fun b ps e => ?_⟩, I.loc, I.cell, ?_, fun x c e => ?_, fun p hp => ?_, fun b u e => ?_, I.len⟩
  · rw [upd_ne (far0 e)]; exact I.base.free b o e n hx
  · have q := I.base.tups b xs e
    rw [upd_ne (far q)]; exact q
  · have q := I.base.frzs b o u e
    rw [upd_ne (far q)]; exact q
  · obtain ⟨m, q⟩ := I.base.tbls b ps e
    exact ⟨m, by rw [upd_ne (far q)]; exact q⟩
  · rw [upd_ne (Ne.symm nL)]; exact I.free
  · have ca : c ≠ a := fun z => by
      obtain ⟨v, o, q1, q2⟩ := I.cell x c e
      rw [z, ha] at q1
      cases q1
      rw [hd] at q2
      cases q2
    rw [upd_ne ca]; exact I.freeC x c e
  · obtain ⟨q1, q2, q3, q4, q5⟩ := I.pin p hp
    exact ⟨q1, by rw [upd_ne (np p hp)]; exact q2, q3, q4, q5⟩
  · by_cases c : b = a
    · subst c
      rw [upd_same] at e
      cases e
      exact exH_ok ha hz hd
    · rw [upd_ne c] at e
      exact (I.hok b u e).stay (fun c v _ q => q) (fun c q => by rw [upd_ne (far q)]; exact q) fun c xs q => by rw [upd_ne (far q)]; exact q
/-- what the clause wishes: the exception stays behind its suite -/
def wKp (K : PySem.W.Frag) (c : Value) (i : Nat) (ts : Addr → Value → Option Addr → TS) (Wo : WX) (D : Ends) : WX := fun cls d σ H =>
  ∃ b, PySem.W.exmOne K cls c = some b ∧ (b = true → ∀ a, H a = none → ts a cls d { nx := fun σ' H' => H' a = none → D.nx (σ'.set i none) (upd H' a (exH cls d a)), rt := fun v H' => H' a = none → D.rt v (upd H' a (exH cls d a)), bk := fun σ' H' => H' a = none → D.bk (σ'.set i none) (upd H' a (exH cls d a)), ct := fun σ' H' => H' a = none → D.ct (σ'.set i none) (upd H' a (exH cls d a)) } (σ.set i (some (.ref a))) H) ∧ (b = false → Wo cls d σ H)
end
section
variable {X : Cx} {x n : Str} {c : Value} {i : Nat} {body suite : List Stmt} {b0 : Stmt} {np pos pos' : Pos} {tb : WX → TS} {ts : Addr → Value → Option Addr → TS} {Wo : WX}
theorem ps_try_keep (hex : X.ex = []) (hs : X.stack = X.env :: X.outer) (hf : X.env.frame = some X.env.locals) (hN : X.N.Nodup) (hi : X.N[i]? = some n) (hln : X.env.kindOf n = some .local) (hc : Names X x c) (tk : Takes X Wo)
    (hb : ∀ (W : WX) (pn : List (Addr × Obj)) (xe : Value → Shared → Prop), Takes (X.tr pn xe) W → PassesOwn (model X.prog X.w) X.A X.env xe → PSs (X.tr pn xe) body (tb W))
    (hsu : ∀ (a : Addr) (oe : Obj) (cls : Value) (d : Option Addr) (pn : List (Addr × Obj)), Zc cls d oe → (∃ vs, oe.data = .fields vs) → PSs (X.suite a ((a, oe) :: pn)) (b0 :: suite) (ts a cls d)) :
    PS X (.Try body [.ExceptHandler (some (.Name x np)) (some n) (b0 :: suite) pos'] [] [] pos) (fun D σ H => tb (wKp X.K c i ts Wo D) D σ H) := by
  refine ⟨fun pins s σ H D I h => ?_⟩
  have okX := I.ok
  have frA : X.A.frames = some (X.env :: X.outer) := okX.frames.trans (congrArg some hs)
  have atL : Loc X.env.scope n := Or.inl hln
  refine wpAny_Try_except (wpAny_mono ((hb (wKp X.K c i ts Wo D) (X.pn ++ pins) (fun e s₁ => wpAny (model X.prog X.w) X.A (noteFrame e X.env) (fun _ s₂ => wpAny (model X.prog X.w) X.A (setFlight e none) (fun _ s₃ =>
    wpAny (model X.prog X.w) X.A (handleBy e X.env [.ExceptHandler (some (.Name x np)) (some n) (b0 :: suite) pos']) (SP X pins D) X.xe s₃) X.xe s₂) X.xe s₁) (fun u s' xx => ?_) PassesOwn.looking).run [] s σ H D (I.toTry _) h) (fun f s1 hsp => ?_) (fun e s1 he => he))
  · obtain ⟨a, B, sI, pi', σ', H', cls, d, rfl, J0, nb, up, sky, na, os, ag, b, hb1, hyes, hno⟩ := xx
    have J : Inv X pins σ' H' sI := J0.ofTry okX
    rw [hs] at sky
    show wpAny (model X.prog X.w) X.A (noteFrame (.ref a) X.env) _ _ _
    refine Sky.land Zc.steady frA hf sky fun h3 fl3 up3 => ?_
    have J3 : Inv X pins σ' H' { s' with heap := h3 } := J.landed nb fl3.1 (up.trans up3) os ag
    obtain ⟨o3, v3, g3, z3, d3⟩ := fl3.there
    have off : a ∉ frs (X.env :: X.outer) := fun hm => by
      obtain ⟨_, o', q, nf⟩ := fl3.2.2.1.mem hm
      rw [g3] at q
      cases q
      exact nf _ d3
    have nL : a ≠ X.env.locals := fun z => off (List.mem_filterMap.mpr ⟨X.env, List.mem_cons_self, by rw [hf, z]⟩)
    have nF : a ∉ X.fs := fun hm => by
      obtain ⟨e, he, q⟩ := List.mem_filterMap.mp hm
      exact off (List.mem_filterMap.mpr ⟨e, List.mem_cons_of_mem _ he, q⟩)
    have noB : B.get? a = none := fl3.2.1
    have inB : ∀ {b : Addr} {o : Obj}, sI.heap.get? b = some o → b ∉ frs X.stack → b ≠ a := fun {b o} q hb z => by
      have := nb b o q hb
      rw [z, noB] at this
      cases this
    have h0 : X.s_0.heap.get? a = none := by
      cases e : X.s_0.heap.get? a with
      | none => rfl
      | some o =>
        obtain ⟨o', q⟩ := J.base.there a o e (by rw [hex]; exact fun z => nomatch z)
        exact absurd rfl (inB q (by rw [hs]; exact off))
    have farP : ∀ p ∈ X.pn ++ pins, p.1 ≠ a := fun p hp => by
      obtain ⟨q1, _, q3, q4, _⟩ := J.pin p hp
      refine inB q1 fun hm => ?_
      rcases List.mem_cons.mp (J.stkSub p.1 hm) with z | z
      · exact q3 z
      · exact q4 z
    have S3 := J3.suite g3 d3 na nL nF
    refine wpAny_handleBy_cons (codeAny_handlers_test ?_) (by intro q; cases q)
    have LT : PySem.W.Looks (model X.prog X.w) h3 (typeOf (.ref a)) cls := fun A Q E s k q => wpAny_typeOf_ref (k _ _ g3) (by rw [z3.1]; exact q)
    have LM := PySem.W.exm_one (M := model X.prog X.w) J3.kIn LT hb1
    have tst : ∀ {Q : Value → Shared → Prop} {E : Value → Shared → Prop}, Q c { s' with heap := h3 } → wpAny (model X.prog X.w) (X.A.mark (some (.ref a))) (eval (.Name x np) X.env) Q E { s' with heap := h3 } := fun {Q E} q => by
      obtain ⟨hg, hd, hm | ⟨hm, hv, hn⟩⟩ := hc
      · exact ld_glob (X := X.suite a ((a, o3) :: (X.pn ++ pins))) S3 hg hm q hd
      · exact ld_blt (X := X.suite a ((a, o3) :: (X.pn ++ pins))) S3 hg hm hv q hn hd
    refine tst (LM.here ?_)
    cases b with
    | false =>
      show wpAny _ X.A (handleBy (.ref a) X.env []) _ _ _
      refine wpAny_handleBy_nil ?_
      obtain ⟨_, _, _, oe, vs, T, _, _, he, _, hd, h1, _⟩ := id fl3
      unfold PySem.passOn
      refine wpAny_bind (wpAny_field he hd h1 ?_)
      rw [if_neg (show ¬ ((Value.ref T == Value.none) = true) from by simp)]
      have out : wpAny (model X.prog X.w) X.A (setFlight (.ref a) X.env.frame) (fun _ s4 => wpAny (model X.prog X.w) X.A (throw (.ref a) : Sem Flow) (SP X pins D) X.xe s4) X.xe { s' with heap := h3 } := by
        rw [hf]
        exact HandSPX.setFlight_upZ fl3 fun h4 hh4 up4 => wpAny_throw (tk _ _ ⟨a, B, sI, pins, σ', H', cls, d, rfl, J, nb, (up.trans up3).trans up4, Or.inr (Or.inr (by rw [hs]; exact hh4)), na, os, ag, hno rfl⟩)
      first
        | exact wpAny_bind (wpAny_pure (wpAny_bind out))
        | exact wpAny_bind out
    | true =>
      refine codeAny_handlers_suite_as (HandSPX.lands_againZ fl3 fun h4 fl4 up4 => ?_)
      have J4 : Inv X pins σ' H' { s' with heap := h4 } := J.landed nb fl4.1 ((up.trans up3).trans up4) os ag
      obtain ⟨o4, v4, g4, z4, d4⟩ := fl4.there
      have S4 := J4.suite g4 d4 na nL nF
      refine store_ok (X := X.suite a ((a, o4) :: (X.pn ++ pins))) (v := .ref a) S4 hN hi atL rfl (fun s5 S5 => ?_) (Or.inr hln)
      have kept : ∀ {σ6 : L2.St} {H6 : Hp} {s6 : Shared}, Inv (X.suite a ((a, o4) :: (X.pn ++ pins))) [] σ6 H6 s6 → H6 a = none ∧ Inv X pins σ6 (upd H6 a (exH cls d a)) s6 := fun {σ6 H6 s6} S6 => by
        obtain ⟨q1, q2, _⟩ := S6.pin (a, o4) (by rw [List.append_nil]; exact List.mem_cons_self)
        exact ⟨q2, track (S6.unsuite okX) q1 z4 d4 q2 h0 nL farP⟩
      have done : ∀ {σ6 : L2.St} {H6 : Hp} {s6 : Shared} {Q : Shared → Prop}, Inv X pins σ6 H6 s6 → (∀ s7, Inv X pins (σ6.set i none) H6 s7 → Q s7) →
          wpAny (model X.prog X.w) X.A (do bindName X.env n .none; unbindBehindTheSuite X.env n pos') (fun _ s7 => Q s7) X.xe s6 := fun I6 hq => gone_ok I6 hN hi hln hq
      refine wpAny_mono ((hsu a o4 cls d (X.pn ++ pins) z4 ⟨_, d4⟩).run [] s5 _ H' _ S5 (hyes rfl a na)) (fun f s6 hsp => ?_) (fun _ _ z => False.elim z)
      cases f with
      | ret u =>
        obtain ⟨v6, σ6, H6, S6, r6, q6⟩ := hsp
        obtain ⟨k1, k2⟩ := kept S6
        exact done k2 fun s7 J7 => ⟨_, _, _, J7, r6, q6 k1⟩
      | next =>
        obtain ⟨σ6, H6, S6, q6⟩ := hsp
        obtain ⟨k1, k2⟩ := kept S6
        exact done k2 fun s7 J7 => ⟨_, _, J7, q6 k1⟩
      | brk =>
        obtain ⟨σ6, H6, S6, q6⟩ := hsp
        obtain ⟨k1, k2⟩ := kept S6
        exact done k2 fun s7 J7 => ⟨_, _, J7, q6 k1⟩
      | cont =>
        obtain ⟨σ6, H6, S6, q6⟩ := hsp
        obtain ⟨k1, k2⟩ := kept S6
        exact done k2 fun s7 J7 => ⟨_, _, J7, q6 k1⟩
  · cases f with
    | ret u =>
      obtain ⟨v, σ', H', J', r, q⟩ := hsp
      exact ⟨v, σ', H', J'.ofTry okX, r, q⟩
    | next =>
      obtain ⟨σ', H', J', q⟩ := hsp
      exact wpAny_execs_nil ⟨σ', H', J'.ofTry okX, q⟩
    | brk =>
      obtain ⟨σ', H', J', q⟩ := hsp
      exact ⟨σ', H', J'.ofTry okX, q⟩
    | cont =>
      obtain ⟨σ', H', J', q⟩ := hsp
      exact ⟨σ', H', J'.ofTry okX, q⟩
end
end LH
end
section
set_option maxRecDepth 100000
set_option maxHeartbeats 4000000
namespace LH
open PySem PySem.Spec PyProof.Rows PySem.Calls PySem.W L2
/-! ### isinstance of a kept exception -/
theorem found_class {K : Frag} {C : Addr} {od : Option Obj} {name : Str} {a g : Value} (hc : (clsIn K C).isSome = true) (ha : findIn K (.ref C) name = some (some a)) (hg : specialIn K a "__get__" = some (some g)) (ht : takesIn K a = some true) : findObj K C od name = some (.bind g a) := by
  cases e : clsIn K C with
  | none => rw [e] at hc; cases hc
  | some cd =>
    unfold findObj
    rw [e, Option.bind_some, ha, Option.bind_some]
    simp [hg, ht]
section
variable {prog : Program} {w : World} {A : Around} {E : Value → Shared → Prop} {s : Shared} {K : Frag} {x D : Addr} {ox : Obj} {od : Option Obj}
theorem class_of {Q : Option Value → Shared → Prop} (C : ExcC K D) (X : K.In s.heap) (I : InstAt s.heap x ox D od) (h : Q (some (.ref D)) { s with toks := s.toks + 1 }) : wpAny (model prog w) A (getAttr? (.ref x) "__class__") Q E s := by
  have some1 : (clsIn K D).isSome = true := by
    obtain ⟨cd, e, _⟩ := any_some C.hd
    rw [e]; rfl
  have found : findObj K D od "__class__" = some (.bind (.builtin "getset_descriptor.__get__") (.builtin "object.__class__")) := found_class some1 C.ha C.hn C.ht
  obtain ⟨hp, gs, dr, tk, os⟩ := s
  have T0 := I.type (M := model prog w)
  have T1 := looks_findIn (M := model prog w) X C.hg
  have T2 := looks_findIn (M := model prog w) X C.hk
  have T3 := looks_find (M := model prog w) X I found
  have sub : Looks (model prog w) hp (isInstance (.ref x) (.type "BaseException")) true := T0.andThen (looks_subIn X C.hs)
  have n0 : (false && onTheHeap (Value.builtin "BaseException.__getattribute__")) = false := rfl
  have n2 : (Value.builtin "BaseException.__getattribute__" == Value.builtin "object.__getattribute__") = false := by decide +kernel
  have n1 : (onTheHeap (Value.ref D) && Value.builtin "BaseException.__getattribute__" == Value.builtin "object.__getattribute__") = false := by rw [n2]; rfl
  unfold getAttr? getAttrBy? getAttrBy
  refine wpAny_bind (wpAny_mkText (wpAny_bind (wpAny_attempt (wpAny_holding (wpAny_bind (T0.at (wpAny_bind (T1.at ?_))))))))
  show wpAny _ _ (if (onTheHeap (Value.ref D) && Value.builtin "BaseException.__getattribute__" == Value.builtin "object.__getattribute__") = true then _ else _) _ _ _
  rw [n1, if_neg Bool.false_ne_true]
  unfold getAttrByItsOwn hookBefore
  refine wpAny_bind ?_
  rw [if_pos (show onTheHeap (Value.ref D) = true from rfl)]
  refine T2.at (wpAny_bind (wpAny_attempt (wpAny_holding ?_)))
  unfold callGetattribute
  rw [n0, if_neg Bool.false_ne_true]
  unfold boundAndCalled
  rw [PySem.F.excAttr_ValueError.ga.bind (.ref x)]
  refine wpAny_bind (wpAny_pure ?_)
  show wpAny _ _ (call (.builtin "BaseException.__getattribute__") [.ref x, .str "__class__" tk]) _ _ _
  refine wpAny_call (codeAny_call_builtin PySem.F.excAttr_ValueError.ga.plain PySem.F.entry_bexc_ga ?_)
  refine @check_slot (model prog w) _ _ ⟨hp, gs, dr, tk + 1, os⟩ "BaseException.__getattribute__" "BaseException" "__getattribute__" (.ref x) [.str "__class__" tk] [] _ (by decide +kernel) (by decide +kernel) sub (PySem.F.args_bexc_ga (.ref x) (.str "__class__" tk)) ?_
  unfold Builtin.«object.__getattribute__»
  refine wpAny_bind (wpAny_of_eq (a := ((Value.ref x : Value), [Value.str "__class__" tk])) (by first | rfl | (simp only [slotArgs]; rfl)) ?_)
  refine wpAny_bind (wpAny_pure (wpAny_bind (T0.at (wpAny_bind (T3.at ?_)))))
  show wpAny _ _ (holding [Value.builtin "object.__class__"] (call (.builtin "getset_descriptor.__get__") [.builtin "object.__class__", .ref x, .ref D]) >>= ret) _ _ _
  refine wpAny_bind (wpAny_holding (wpAny_call (class_get (s := ⟨hp, gs, dr, tk + 1, os⟩) (ox := ox) (od := od) X I C.hm ?_)))
  refine wpAny_pure ?_
  show wpAny _ _ (handedOut (.ref D)) _ _ _
  rw [handedOut_of (v := .ref D) rfl]
  first
    | exact wpAny_pure (wpAny_pure h)
    | exact wpAny_pure h
    | exact wpAny_pure (wpAny_bind (wpAny_pure (wpAny_pure h)))
theorem kit_exc (C : ExcC K D) : KitX K (.ref x) (.ref D) (fun h => InstAt h x ox D od) where
  ty := fun _ _ _ I => I.type
  it := fun _ _ X _ => by
    obtain ⟨cd, e, _⟩ := any_some C.hd
    unfold clsIn at e
    split at e
    · rename_i c' d' cd' sl' ho
      intro A' Q' E' s' k q
      unfold isType loadHead
      exact wpAny_bind (wpAny_loadPart (k _ _ (X _ _ ho)) (wpAny_pure q))
    · cases e
  ne := fun h tp dd its n sl X htp => by
    obtain ⟨cd, e, _⟩ := any_some C.hd
    refine Bool.eq_false_iff.mpr fun q => ?_
    have z : D = tp := Value.ref.inj (beq_iff_eq.mp q)
    subst z
    unfold clsIn at e
    split at e
    · rename_i c' d' cd' sl' ho
      have y := (X _ _ ho).symm.trans htp
      cases y
    · cases e
  ca := fun X I k => class_of C X I k
end
section
variable {X : Cx} {pins : List (Addr × Obj)} {σ : L2.St} {H : Hp} {s : Shared}
theorem inst_of {a C d : Addr} {fs : List (Str × V)} (I : Inv X pins σ H s) (ha : H a = some (exH (.ref C) (some d) a)) (hd : H d = some (.xd fs)) : ∃ (oe od : Obj), InstAt s.heap a oe C (some od) ∧ ∀ (f : Str) (v : V), fs.lookup f = some v → ∃ u, PySem.W.lookIn f od = some (some u) ∧ RelV v u := by
  obtain ⟨oe, vs, g, z, dd⟩ := exH_at I.hok ha
  have hx : ObjOk X.prog X.w H s.heap d (.xd fs) := I.hok d _ hd
  obtain ⟨mA, hns, hr⟩ := hx
  obtain ⟨od, ho, hl⟩ := lookIn_ns hns
  refine ⟨oe, od, ⟨g, z.1, (by unfold PySem.W.notCls; rw [dd] <;> rfl), by rw [z.2]; exact ho⟩, fun f v l => ?_⟩
  obtain ⟨u, hu, ru⟩ := RelO.some_of (v := v) (o := mA f) (by rw [← l]; exact hr f)
  exact ⟨u, by rw [hl, hu], ru⟩
end
/-- isinstance(e, c) -/
def rIsX (K : PySem.W.Frag) : List V → Hp → VK → Prop := fun xs H Q => ∃ (a C d : Addr) (fs : List (Str × V)) (c : V) (u : Value) (b : Bool), xs = [.ref a, c] ∧ H a = some (exH (.ref C) (some d) a) ∧ H d = some (.xd fs) ∧ ClsV c u ∧ ExcC K C ∧ PySem.W.kitOne K (.ref C) u = some b ∧ Q (.bl b) H
/-- isinstance(e, (c1, ..)) -/
def rIsXT (K : PySem.W.Frag) : List V → Hp → VK → Prop := fun xs H Q => ∃ (a C d tp : Addr) (fs : List (Str × V)) (cs : List V) (us : List Value) (b : Bool), xs = [.ref a, .ref tp] ∧ H a = some (exH (.ref C) (some d) a) ∧ H d = some (.xd fs) ∧ H tp = some (.tup cs) ∧ Paired ClsV cs us ∧ ExcC K C ∧ PySem.W.kitAny K (.ref C) us = some b ∧ Q (.bl b) H
section
variable {X : Cx}
theorem two_vals {x y : V} {us : List Value} (r : Vals [x, y] us) : ∃ u v, us = [u, v] ∧ RelV x u ∧ RelV y v := by
  cases r with
  | cons r t =>
    cases t with
    | cons r2 t2 => cases t2; exact ⟨_, _, rfl, r, r2⟩
theorem call_isX : CallR X (.builtin "isinstance") (rIsX X.K) := by
  intro pins s σ H xs us Q I r h
  obtain ⟨a, C, d, fs, c, u, b, rfl, ha, hd, k, ec, e, q⟩ := h
  obtain ⟨u1, u2, rfl, r1, r2⟩ := two_vals r
  have e2 := k.eq r2
  subst e2
  cases r1
  obtain ⟨oe, od, J, _⟩ := inst_of I ha hd
  exact PySem.W.kia_one (kit_exc ec) I.kIn J e (fun z => nomatch z) fun tk => ⟨.bl b, H, I.tok tk, rfl, q⟩
theorem call_isXT : CallR X (.builtin "isinstance") (rIsXT X.K) := by
  intro pins s σ H xs us Q I r h
  obtain ⟨a, C, d, tp, fs, cs, ws, b, rfl, ha, hd, hT, k, ec, e, q⟩ := h
  obtain ⟨u1, u2, rfl, r1, r2⟩ := two_vals r
  cases r1
  cases r2
  obtain ⟨oe, od, J, _⟩ := inst_of I ha hd
  obtain ⟨_, its, rv, o, h1, h2, n, h3⟩ := (show ObjOk X.prog X.w H s.heap tp (.tup cs) from I.hok tp _ hT)
  have e3 := ClsV.all k rv
  subst e3
  obtain ⟨oc, od', dt, sl⟩ := o
  simp only at h2 h3
  subst h2 h3
  exact PySem.W.kia_tup (kit_exc ec) I.kIn J h1 e (fun z => nomatch z) fun tk => ⟨.bl b, H, I.tok tk, rfl, q⟩
/-- any of the ways of isinstance with one class -/
theorem call_isA : CallR X (.builtin "isinstance") (fun xs H Q => rIsi X.K xs H Q ∨ rIsX X.K xs H Q) := by
  intro pins s σ H xs us Q I r h
  rcases h with h | h
  · exact call_isi pins s σ H xs us Q I r h
  · exact call_isX pins s σ H xs us Q I r h
theorem call_isAT : CallR X (.builtin "isinstance") (fun xs H Q => rIsiT X.K xs H Q ∨ rIsXT X.K xs H Q) := by
  intro pins s σ H xs us Q I r h
  rcases h with h | h
  · exact call_isiT pins s σ H xs us Q I r h
  · exact call_isXT pins s σ H xs us Q I r h
/-- e.f -/
def tXk (K : PySem.W.Frag) (f : Str) (te : TE) : TE := fun σ H Q => te σ H fun x H1 => ∃ (a C d : Addr) (fs : List (Str × V)) (v : V), x = .ref a ∧ H1 a = some (exH (.ref C) (some d) a) ∧ H1 d = some (.xd fs) ∧ XfC K C ∧ PySem.W.findIn K (.ref C) f = some none ∧ fs.lookup f = some v ∧ Q v H1
theorem pe_xk {e : Expr} {te : TE} {pos : Pos} {n : Str} (he : PE X e te) (hb : attributeBase e n X.env (eval e X.env) = eval e X.env := by rfl) : PE X (.Attribute e n pos) (tXk X.K n te) := by
  refine ⟨fun pins s σ H Q I h => ?_⟩
  refine attr_of hb (thn (he.run pins s σ H _ I h) fun u s1 hh => ?_)
  obtain ⟨x, H1, I1, rx, a, C, d, fs, v, rfl, ha, hd, T, hno, l, q⟩ := hh
  cases rx
  obtain ⟨oe, od, J, hl⟩ := inst_of I1 ha hd
  obtain ⟨u, hu, ru⟩ := hl n v l
  exact HandSPX.exc_get I1.kIn J T.ga T.gg T.exC (PySem.W.findObj_own T.hdC hno rfl hu) (handed_of ru) ⟨v, H1, I1.tok _, ru, q⟩
end
/-! ### calls that may raise -/
section
variable {X : Cx} {CX : CXT} {k : Nat} {f C : Addr} {fd : FuncData} {ps : List Str} {sp : Sp} {EE : L2.St → XK} {m : Str} {pos apos : Pos} {e o : Expr} {es : List Expr} {ta : TE} {t : TA}
def tMethS (C : Addr) (m : Str) (sp : Sp) (EE : L2.St → XK) (ta : TE) (t : TA) : TE := fun σ H Q => ta σ H fun x H1 => ∃ a dx fs, x = .ref a ∧ H1 a = some (.ins C dx fs) ∧ fs.lookup m = none ∧ t σ H1 fun vs H2 => sp (.ref a :: vs) H2 Q (EE σ)
theorem pe_methX {pl : Sem Bool} (he : PE X o ta) (c : Cls X.K C) (hm : Meth X.K C m f) (F : FnOk X.prog X.w X.K X.mg X.base CX k f fd ps sp) (hr : Room k X.A) (hb : Binds X.K fd ps []) (hx : ∀ σ, PassesAt CX X σ (EE σ)) (ha : PA X (e :: es) t)
    (hst : starEach (e :: es) X.env = (false, eval e X.env) :: starEach es X.env := by rfl) (hpl : (backTo pos (starEach es X.env)).any (·.1) = false := by rfl)
    (ht : eval (.Call (.Attribute o m apos) (e :: es) [] pos) X.env = (do
      let ov ← eval o X.env
      standAt apos.atName
      let (f, first) ← holding [ov] (getMethod ov m pl)
      callWith pos f first (backTo pos (starEach (e :: es) X.env)) (backToKw pos (keywordEach [] X.env))) := by rfl) :
    PE X (.Call (.Attribute o m apos) (e :: es) [] pos) (tMethS C m sp EE ta t) := by
  refine ⟨fun pins s σ H Q I h => ?_⟩
  refine PySem.W.methodCall_KW (pl := pl) (thn (he.run pins s σ H _ I h) fun u s1 hh => ?_) ht
  obtain ⟨x, H1, I1, rx, a, dx, fs, rfl, ea, l, q⟩ := hh
  cases rx
  refine getmeth_ok I1 ea c hm l ?_
  refine PySem.W.callWith_K (first := [.ref a]) (h₀ := X.base) I.ok.mod.kin hm.kp (thn (ha.run pos pins s1 σ H1 _ I1 q) fun us s2 hh => ⟨hh.choose_spec.choose_spec.1.kIn, ?_⟩) hst hpl
  obtain ⟨vs, H2, I2, r, q2⟩ := hh
  exact run_fnS (us := .ref a :: us) (vs := .ref a :: vs) F hr hb (hx σ) I2 (.cons rfl r) q2
end
/-- all that is asked of an own exception's class -/
structure XCls (K : PySem.W.Frag) (C fI : Addr) (ns : List Str) : Prop where
  oex : OexC K C
  xf : XfC K C
  ec : ExcC K C
  iC : PySem.W.findIn K (.ref C) "__init__" = some (some (.ref fI))
  tI : PySem.W.typeIn K (.ref fI) = some (.type "function")
  na : ∀ f ∈ ns, PySem.W.findIn K (.ref C) f = some none
  te : PySem.W.exmOne K (.ref C) (.ref C) = some true
end LH
end
section
set_option maxRecDepth 100000
set_option maxHeartbeats 4000000
namespace LP
open PySem L2 LH
/-! ### trees: values without addresses -/
/-- something stands there, no tuple -/
def Liv (H : Hp) (a : Addr) : Prop := ∃ o, H a = some o ∧ ∀ xs, o ≠ .tup xs
theorem Liv.same {H H' : Hp} {a : Addr} (h : Liv H a) (s : ∀ o, H a = some o → H' a = some o) : Liv H' a := let ⟨o, e, n⟩ := h; ⟨o, s o e, n⟩
/-- no dict by texts and numbers, frozen or not -/
def NotD (o : HO) : Prop := (∀ ks, o ≠ .dK ks) ∧ ∀ x ks, o ≠ .frz x (.dK ks)
/-- an owned thing that is known by a word of its own -/
structure Opq where
  φ : (Addr → Prop) → Hp → Addr → List Addr → Prop
  fr : ∀ {av : Addr → Prop} {H H' : Hp} {a : Addr} {F : List Addr}, φ av H a F → (∀ b o, (¬ av b ∨ b ∈ F) → H b = some o → H' b = some o) → φ av H' a F
  up : ∀ {av av' : Addr → Prop} {H : Hp} {a : Addr} {F : List Addr}, φ av H a F → (∀ b, av' b → av b ∨ H b = none) → φ av' H a F
  al : ∀ {av : Addr → Prop} {H : Hp} {a : Addr} {F : List Addr}, φ av H a F → ∀ b ∈ F, Liv H b
  lk : ∀ {av : Addr → Prop} {H H' : Hp} {a : Addr} {F : List Addr}, φ av H a F → (∀ b o, ¬ av b → H b = some o → NotD o → H' b = some o) → (∀ b ks, ¬ av b → Rd H b (.dK ks) → Rd H' b (.dK ks)) → (∀ b ∈ F, H' b = H b) → φ av H' a F
inductive T where
  | non | bl (b : Bool) | int (i : Int) | str (z : Str)
  | lst (xs : List T) | tup (xs : List T)
  | dic (kvs : List (Key × T)) | dit (kvs : List (List Key × T))
  | ins (C : Addr) (fs : List (Str × T))
  | exc (C : Addr) (fs : List (Str × T))
  | cls (a : Addr) | ty (n : String)
  /-- the numbers that a law is handed -/
  | scr (K : PySem.W.Frag) (ns : List Int)
  | opq (o : Opq)
/-- a tree, not an opaque thing -/
def T.tree : T → Prop
  | .opq _ => False
  | _ => True
section
variable (av : Addr → Prop) (H : Hp)
mutual
/-- v is the tree t in the heap; none of its objects is one of av -/
inductive Dn : V → T → Prop
  | non : Dn .non .non
  | bl (b : Bool) : Dn (.bl b) (.bl b)
  | int (i : Int) : Dn (.int i) (.int i)
  | str (z : Str) : Dn (.str z) (.str z)
  | cls (a : Addr) : Dn (.ref a) (.cls a)
  | ty (n : String) : Dn (.ty n) (.ty n)
  | scrH {a : Addr} {K : PySem.W.Frag} {ns : List Int} : ¬ av a → Rd H a (.lst (ns.map V.int)) → Dn (.ref a) (.scr K ns)
  | scrK {a : Addr} {K : PySem.W.Frag} {ns : List Int} : (∃ (o : Obj) (its : Array Value) (n : Nat), K.lookup a = some o ∧ o.cls = .type "list" ∧ o.dict = none ∧ o.data = .seq its n ∧ its.size ≤ sizeLine ∧ Vals (ns.map V.int) its.toList) → Dn (.ref a) (.scr K ns)
  | lst {a : Addr} {vs : List V} {ts : List T} : ¬ av a → H a = some (.lst vs) → Dns vs ts → Dn (.ref a) (.lst ts)
  | tup {a : Addr} {vs : List V} {ts : List T} : ¬ av a → H a = some (.tup vs) → Dns vs ts → Dn (.ref a) (.tup ts)
  | dic {a : Addr} {ks : List (Key × V)} {kt : List (Key × T)} : ¬ av a → Rd H a (.dK ks) → ks.map Prod.fst = kt.map Prod.fst → Dns (ks.map Prod.snd) (kt.map Prod.snd) → Dn (.ref a) (.dic kt)
  | dit {a : Addr} {ks : List (List Key × V)} {kt : List (List Key × T)} : ¬ av a → H a = some (.dT ks) → ks.map Prod.fst = kt.map Prod.fst → Dns (ks.map Prod.snd) (kt.map Prod.snd) → Dn (.ref a) (.dit kt)
  | ins {a C dx : Addr} {fs : List (Str × V)} {ft : List (Str × T)} : ¬ av a → H a = some (.ins C dx fs) → fs.map Prod.fst = ft.map Prod.fst → Dns (fs.map Prod.snd) (ft.map Prod.snd) → Dn (.ref a) (.ins C ft)
  | exc {a C d : Addr} {fv : List (Str × V)} {ft : List (Str × T)} : ¬ av a → ¬ av d → H a = some (exH (.ref C) (some d) a) → H d = some (.xd fv) → fv.map Prod.fst = ft.map Prod.fst → Dns (fv.map Prod.snd) (ft.map Prod.snd) → Dn (.ref a) (.exc C ft)
inductive Dns : List V → List T → Prop
  | nil : Dns [] []
  | cons {v : V} {t : T} {vs : List V} {ts : List T} : Dn v t → Dns vs ts → Dns (v :: vs) (t :: ts)
end
/-- the object at a is ours; F: what is changed with it -/
def Own (a : Addr) (t : T) (F : List Addr) : Prop := match t with
  | .lst ts => F = [a] ∧ ∃ vs, H a = some (.lst vs) ∧ Dns av H vs ts
  | .dic kt => F = [a] ∧ ∃ ks, H a = some (.dK ks) ∧ ks.map Prod.fst = kt.map Prod.fst ∧ Dns av H (ks.map Prod.snd) (kt.map Prod.snd)
  | .dit kt => F = [a] ∧ ∃ ks, H a = some (.dT ks) ∧ ks.map Prod.fst = kt.map Prod.fst ∧ Dns av H (ks.map Prod.snd) (kt.map Prod.snd)
  | .ins C ft => F = [a] ∧ ∃ dx fs, H a = some (.ins C dx fs) ∧ fs.map Prod.fst = ft.map Prod.fst ∧ Dns av H (fs.map Prod.snd) (ft.map Prod.snd)
  | .opq o => o.φ av H a F
  | _ => False
end
section
variable {av av' : Addr → Prop} {H H' : Hp}
theorem SqL_fr {K : PySem.W.Frag} {a : Addr} {xs : List V} (h : SqL K H a xs) (f : ∀ o, H a = some o → H' a = some o) : SqL K H' a xs :=
  h.elim (fun h => .inl (h.elim (fun h => .inl (f _ h)) fun ⟨o, h⟩ => .inr ⟨o, f _ h⟩)) fun h => .inr h
mutual
theorem Dn.fr (f : ∀ b o, ¬ av b → H b = some o → H' b = some o) : ∀ {v : V} {t : T}, Dn av H v t → Dn av H' v t
  | _, _, .non => .non
  | _, _, .bl b => .bl b
  | _, _, .int i => .int i
  | _, _, .str z => .str z
  | _, _, .cls a => .cls a
  | _, _, .ty n => .ty n
  | _, _, .scrH n e => .scrH n (e.imp (f _ _ n) fun ⟨o, e⟩ => ⟨o, f _ _ n e⟩)
  | _, _, .scrK e => .scrK e
  | _, _, .lst n e d => .lst n (f _ _ n e) (Dns.fr f d)
  | _, _, .tup n e d => .tup n (f _ _ n e) (Dns.fr f d)
  | _, _, .dic n e k d => .dic n (e.imp (f _ _ n) fun ⟨o, e⟩ => ⟨o, f _ _ n e⟩) k (Dns.fr f d)
  | _, _, .dit n e k d => .dit n (f _ _ n e) k (Dns.fr f d)
  | _, _, .ins n e k d => .ins n (f _ _ n e) k (Dns.fr f d)
  | _, _, .exc n m e e2 k d => .exc n m (f _ _ n e) (f _ _ m e2) k (Dns.fr f d)
theorem Dns.fr (f : ∀ b o, ¬ av b → H b = some o → H' b = some o) : ∀ {vs : List V} {ts : List T}, Dns av H vs ts → Dns av H' vs ts
  | _, _, .nil => .nil
  | _, _, .cons h t => .cons (Dn.fr f h) (Dns.fr f t)
end
mutual
/-- fewer to avoid, or ones that are free -/
theorem Dn.up (f : ∀ b, av' b → av b ∨ H b = none) : ∀ {v : V} {t : T}, Dn av H v t → Dn av' H v t
  | _, _, .non => .non
  | _, _, .bl b => .bl b
  | _, _, .int i => .int i
  | _, _, .str z => .str z
  | _, _, .cls a => .cls a
  | _, _, .ty n => .ty n
  | _, _, .scrH n e => .scrH (fun z => (f _ z).elim n fun q => by rcases e with e | ⟨_, e⟩ <;> (rw [q] at e; cases e)) e
  | _, _, .scrK e => .scrK e
  | _, _, .lst n e d => .lst (fun z => (f _ z).elim n fun q => by rw [q] at e; cases e) e (Dns.up f d)
  | _, _, .tup n e d => .tup (fun z => (f _ z).elim n fun q => by rw [q] at e; cases e) e (Dns.up f d)
  | _, _, .dic n e k d => .dic (fun z => (f _ z).elim n fun q => by rcases e with e | ⟨_, e⟩ <;> (rw [q] at e; cases e)) e k (Dns.up f d)
  | _, _, .dit n e k d => .dit (fun z => (f _ z).elim n fun q => by rw [q] at e; cases e) e k (Dns.up f d)
  | _, _, .ins n e k d => .ins (fun z => (f _ z).elim n fun q => by rw [q] at e; cases e) e k (Dns.up f d)
  | _, _, .exc n m e e2 k d => .exc (fun z => (f _ z).elim n fun q => by rw [q] at e; cases e) (fun z => (f _ z).elim m fun q => by rw [q] at e2; cases e2) e e2 k (Dns.up f d)
theorem Dns.up (f : ∀ b, av' b → av b ∨ H b = none) : ∀ {vs : List V} {ts : List T}, Dns av H vs ts → Dns av' H vs ts
  | _, _, .nil => .nil
  | _, _, .cons h t => .cons (Dn.up f h) (Dns.up f t)
end
end

section
variable {av : Addr → Prop} {H H' : Hp}
mutual
/-- dicts may be frozen meanwhile -/
theorem Dn.lk (f : ∀ b o, ¬ av b → H b = some o → NotD o → H' b = some o) (g : ∀ b ks, ¬ av b → Rd H b (.dK ks) → Rd H' b (.dK ks)) : ∀ {v : V} {t : T}, Dn av H v t → Dn av H' v t
  | _, _, .non => .non
  | _, _, .bl b => .bl b
  | _, _, .int i => .int i
  | _, _, .str z => .str z
  | _, _, .cls a => .cls a
  | _, _, .ty n => .ty n
  | _, _, .scrH n e => .scrH n (e.imp (fun e => f _ _ n e ⟨fun _ z => (by cases z), fun _ _ z => (by cases z)⟩) fun ⟨o, e⟩ => ⟨o, f _ _ n e ⟨fun _ z => (by cases z), fun _ _ z => (by cases z)⟩⟩)
  | _, _, .scrK e => .scrK e
  | _, _, .lst n e d => .lst n (f _ _ n e ⟨fun _ z => (by cases z), fun _ _ z => (by cases z)⟩) (Dns.lk f g d)
  | _, _, .tup n e d => .tup n (f _ _ n e ⟨fun _ z => (by cases z), fun _ _ z => (by cases z)⟩) (Dns.lk f g d)
  | _, _, .dic n e k d => .dic n (g _ _ n e) k (Dns.lk f g d)
  | _, _, .dit n e k d => .dit n (f _ _ n e ⟨fun _ z => (by cases z), fun _ _ z => (by cases z)⟩) k (Dns.lk f g d)
  | _, _, .ins n e k d => .ins n (f _ _ n e ⟨fun _ z => (by cases z), fun _ _ z => (by cases z)⟩) k (Dns.lk f g d)
  | _, _, .exc n m e e2 k d => .exc n m (f _ _ n e ⟨fun _ z => (by cases z), fun _ _ z => (by cases z)⟩) (f _ _ m e2 ⟨fun _ z => (by cases z), fun _ _ z => (by cases z)⟩) k (Dns.lk f g d)
theorem Dns.lk (f : ∀ b o, ¬ av b → H b = some o → NotD o → H' b = some o) (g : ∀ b ks, ¬ av b → Rd H b (.dK ks) → Rd H' b (.dK ks)) : ∀ {vs : List V} {ts : List T}, Dns av H vs ts → Dns av H' vs ts
  | _, _, .nil => .nil
  | _, _, .cons h t => .cons (Dn.lk f g h) (Dns.lk f g t)
end
theorem Own.lk {a : Addr} {t : T} {F : List Addr} (h : Own av H a t F) (f : ∀ b o, ¬ av b → H b = some o → NotD o → H' b = some o) (g : ∀ b ks, ¬ av b → Rd H b (.dK ks) → Rd H' b (.dK ks)) (hF : ∀ b ∈ F, H' b = H b) : Own av H' a t F := by
  cases t with
  | lst ts => obtain ⟨rfl, vs, e, d⟩ := h; exact ⟨rfl, vs, by rw [hF a List.mem_cons_self]; exact e, d.lk f g⟩
  | dic ts => obtain ⟨rfl, vs, e, k, d⟩ := h; exact ⟨rfl, vs, by rw [hF a List.mem_cons_self]; exact e, k, d.lk f g⟩
  | dit ts => obtain ⟨rfl, vs, e, k, d⟩ := h; exact ⟨rfl, vs, by rw [hF a List.mem_cons_self]; exact e, k, d.lk f g⟩
  | ins C ts => obtain ⟨rfl, dx, vs, e, k, d⟩ := h; exact ⟨rfl, dx, vs, by rw [hF a List.mem_cons_self]; exact e, k, d.lk f g⟩
  | opq o => exact o.lk h f g hF
  | _ => exact h.elim
end
section
variable {av av' : Addr → Prop} {H H' : Hp} {a : Addr} {t : T} {F : List Addr}
theorem Dns.len : ∀ {vs : List V} {ts : List T}, Dns av H vs ts → vs.length = ts.length
  | _, _, .nil => rfl
  | _, _, .cons _ t => by rw [List.length_cons, List.length_cons, Dns.len t]
theorem Dns.get : ∀ {vs : List V} {ts : List T} {i : Nat} {v : V}, Dns av H vs ts → vs[i]? = some v → ∃ t, ts[i]? = some t ∧ Dn av H v t
  | _, _, _, _, .nil, e => by simp at e
  | _, _, 0, _, .cons r _, e => by simp at e; subst e; exact ⟨_, rfl, r⟩
  | _, _, i + 1, v, .cons _ t, e => by
    obtain ⟨u, h1, h2⟩ := Dns.get (i := i) (v := v) t (by simpa using e)
    exact ⟨u, by simpa using h1, h2⟩
theorem Dns.get' : ∀ {vs : List V} {ts : List T} {i : Nat} {t : T}, Dns av H vs ts → ts[i]? = some t → ∃ v, vs[i]? = some v ∧ Dn av H v t
  | _, _, _, _, .nil, e => by simp at e
  | _, _, 0, _, .cons r _, e => by simp at e; subst e; exact ⟨_, rfl, r⟩
  | _, _, i + 1, t, .cons _ r, e => by
    obtain ⟨u, h1, h2⟩ := Dns.get' (i := i) (t := t) r (by simpa using e)
    exact ⟨u, by simpa using h1, h2⟩
theorem Dns.app : ∀ {vs ws : List V} {ts us : List T}, Dns av H vs ts → Dns av H ws us → Dns av H (vs ++ ws) (ts ++ us)
  | _, _, _, _, .nil, s => s
  | _, _, _, _, .cons r t, s => .cons r (Dns.app t s)
theorem Dns.take : ∀ {vs : List V} {ts : List T} (n : Nat), Dns av H vs ts → Dns av H (vs.take n) (ts.take n)
  | _, _, 0, _ => .nil
  | _, _, _ + 1, .nil => .nil
  | _, _, n + 1, .cons r t => .cons r (Dns.take n t)
theorem Dns.drop : ∀ {vs : List V} {ts : List T} (n : Nat), Dns av H vs ts → Dns av H (vs.drop n) (ts.drop n)
  | _, _, 0, r => r
  | _, _, _ + 1, .nil => .nil
  | _, _, n + 1, .cons _ t => Dns.drop n t
theorem Dns.rev : ∀ {vs : List V} {ts : List T}, Dns av H vs ts → Dns av H vs.reverse ts.reverse
  | _, _, .nil => .nil
  | _, _, .cons r t => by rw [List.reverse_cons, List.reverse_cons]; exact (Dns.rev t).app (.cons r .nil)
theorem Dns.set {v : V} {t : T} (h : Dn av H v t) : ∀ {vs : List V} {ts : List T} (i : Nat), Dns av H vs ts → Dns av H (vs.set i v) (ts.set i t)
  | _, _, _, .nil => .nil
  | _, _, 0, .cons _ r => .cons h r
  | _, _, i + 1, .cons q r => .cons q (Dns.set h i r)
theorem Dns.erase : ∀ {vs : List V} {ts : List T} (i : Nat), Dns av H vs ts → Dns av H (vs.eraseIdx i) (ts.eraseIdx i)
  | _, _, _, .nil => .nil
  | _, _, 0, .cons _ r => r
  | _, _, i + 1, .cons q r => .cons q (Dns.erase i r)
theorem Dns.one {v : V} {t : T} (h : Dn av H v t) : Dns av H [v] [t] := .cons h .nil
theorem Own.fr (h : Own av H a t F) (f : ∀ b o, (¬ av b ∨ b ∈ F) → H b = some o → H' b = some o) : Own av H' a t F := by
  have g : ∀ b o, ¬ av b → H b = some o → H' b = some o := fun b o n => f b o (.inl n)
  cases t with
  | lst ts => obtain ⟨rfl, vs, e, d⟩ := h; exact ⟨rfl, vs, f _ _ (.inr List.mem_cons_self) e, d.fr g⟩
  | dic ts => obtain ⟨rfl, vs, e, k, d⟩ := h; exact ⟨rfl, vs, f _ _ (.inr List.mem_cons_self) e, k, d.fr g⟩
  | dit ts => obtain ⟨rfl, vs, e, k, d⟩ := h; exact ⟨rfl, vs, f _ _ (.inr List.mem_cons_self) e, k, d.fr g⟩
  | ins C ts => obtain ⟨rfl, dx, vs, e, k, d⟩ := h; exact ⟨rfl, dx, vs, f _ _ (.inr List.mem_cons_self) e, k, d.fr g⟩
  | opq o => exact o.fr h f
  | _ => exact h.elim
theorem Own.up (h : Own av H a t F) (f : ∀ b, av' b → av b ∨ H b = none) : Own av' H a t F := by
  cases t with
  | lst ts => obtain ⟨rfl, vs, e, d⟩ := h; exact ⟨rfl, vs, e, d.up f⟩
  | dic ts => obtain ⟨rfl, vs, e, k, d⟩ := h; exact ⟨rfl, vs, e, k, d.up f⟩
  | dit ts => obtain ⟨rfl, vs, e, k, d⟩ := h; exact ⟨rfl, vs, e, k, d.up f⟩
  | ins C ts => obtain ⟨rfl, dx, vs, e, k, d⟩ := h; exact ⟨rfl, dx, vs, e, k, d.up f⟩
  | opq o => exact o.up h f
  | _ => exact h.elim
theorem Own.al (h : Own av H a t F) : ∀ b ∈ F, Liv H b := by
  have one : ∀ {o : HO}, H a = some o → (∀ xs, o ≠ .tup xs) → ∀ b ∈ [a], Liv H b := fun e n b hb => by rw [List.mem_singleton.mp hb]; exact ⟨_, e, n⟩
  cases t with
  | lst ts => obtain ⟨rfl, vs, e, d⟩ := h; exact one e (fun _ z => by cases z)
  | dic ts => obtain ⟨rfl, vs, e, k, d⟩ := h; exact one e (fun _ z => by cases z)
  | dit ts => obtain ⟨rfl, vs, e, k, d⟩ := h; exact one e (fun _ z => by cases z)
  | ins C ts => obtain ⟨rfl, dx, vs, e, k, d⟩ := h; exact one e (fun _ z => by cases z)
  | opq o => exact o.al h
  | _ => exact h.elim
/-- what is ours is let go -/
theorem Own.dn (h : Own av H a t F) (tr : t.tree) (n : ∀ b ∈ F, ¬ av' b) (f : ∀ b, av' b → av b) : Dn av' H (.ref a) t := by
  have g : ∀ b, av' b → av b ∨ H b = none := fun b z => .inl (f b z)
  cases t with
  | lst ts => obtain ⟨rfl, vs, e, d⟩ := h; exact .lst (n _ List.mem_cons_self) e (d.up g)
  | dic ts => obtain ⟨rfl, vs, e, k, d⟩ := h; exact .dic (n _ List.mem_cons_self) (.inl e) k (d.up g)
  | dit ts => obtain ⟨rfl, vs, e, k, d⟩ := h; exact .dit (n _ List.mem_cons_self) e k (d.up g)
  | ins C ts => obtain ⟨rfl, dx, vs, e, k, d⟩ := h; exact .ins (n _ List.mem_cons_self) e k (d.up g)
  | opq o => exact tr.elim
  | _ => exact h.elim
end
/-! ### the state: slots and what is held meanwhile -/
/-- shared; ours; an alias of a place; let go (shared, in a place that was ours) -/
inductive PV where
  | sh (t : T) | ow (t : T) | al (i : Nat) | fz (t : T) | io (t : T) | cx (a d C : Addr) (fs : List (Str × T))
abbrev Env := List (Option PV)
abbrev Stk := List (V × PV)
inductive Loc where
  | sl (i : Nat) | pn (j : Nat)
  deriving DecidableEq
structure Gh where
  H0 : Hp
  AV : Addr → Prop
  io : List Addr
  ia : Addr
def Gh.av (G : Gh) (w : Addr → Option Loc) (a : Addr) : Prop := G.AV a ∨ ∃ l, w a = some l
def PvAt (G : Gh) (w : Addr → Option Loc) (l : Loc) (σ : St) (H : Hp) (v : V) : PV → Prop
  | .sh t => Dn (G.av w) H v t
  | .fz t => Dn (G.av w) H v t
  | .ow t => ∃ a F, v = .ref a ∧ Own (G.av w) H a t F ∧ ∀ b ∈ F, w b = some l
  | .al j => σ[j]? = some (some v)
  | .io t => v = .ref G.ia ∧ Own (G.av w) H G.ia t G.io ∧ ∀ b ∈ G.io, w b = some l
  | .cx a d _ fs => v = .ref a ∧ ¬ G.av w d ∧ ∃ fv, H d = some (.xd fv) ∧ fv.map Prod.fst = fs.map Prod.fst ∧ Dns (G.av w) H (fv.map Prod.snd) (fs.map Prod.snd)
def StkAt (G : Gh) (w : Addr → Option Loc) (σ : St) (H : Hp) : Stk → Prop
  | [] => True
  | (v, p) :: S => PvAt G w (.pn S.length) σ H v p ∧ StkAt G w σ H S
structure RO (G : Gh) (w : Addr → Option Loc) (ρ : Env) (σ : St) (S : Stk) (H : Hp) : Prop where
  len : ρ.length = σ.length
  slot : ∀ i p x, ρ[i]? = some (some p) → σ[i]? = some x → ∃ v, x = some v ∧ PvAt G w (.sl i) [] H v p
  stk : StkAt G w σ H S
  own : ∀ a l, w a = some l → ¬ G.AV a ∧ (G.H0 a = none ∨ a ∈ G.io) ∧ Liv H a
  frame : ∀ b o, b ∉ G.io → G.H0 b = some o → H b = some o
  avs : ∀ a, G.AV a → a ∉ G.io ∧ Liv G.H0 a
  als : ∀ v j, (v, PV.al j) ∈ S → ∃ t, ρ[j]? = some (some (.ow t)) ∨ ρ[j]? = some (some (.fz t)) ∨ ρ[j]? = some (some (.io t))
def R (G : Gh) (ρ : Env) (σ : St) (S : Stk) (H : Hp) : Prop := ∃ w, RO G w ρ σ S H

section
variable {G : Gh} {w w' : Addr → Option Loc} {l : Loc} {ρ : Env} {σ σ' : St} {S : Stk} {H H' : Hp} {v : V} {p : PV}
theorem PvAt.up (h : PvAt G w l σ H v p) (hs : ∀ j, p = .al j → σ'[j]? = σ[j]?) (up : ∀ b, G.av w' b → G.av w b ∨ H b = none) (kp : ∀ b, w b = some l → w' b = some l) : PvAt G w' l σ' H v p := by
  cases p with
  | sh t => exact Dn.up up h
  | fz t => exact Dn.up up h
  | ow t =>
    obtain ⟨a, F, e, o, f⟩ := h
    exact ⟨a, F, e, o.up up, fun b hb => kp b (f b hb)⟩
  | al j => exact (hs j rfl).trans h
  | io t => exact ⟨h.1, h.2.1.up up, fun b hb => kp b (h.2.2 b hb)⟩
  | cx a d C fs =>
    obtain ⟨e, n, fv, h1, h2, h3⟩ := h
    exact ⟨e, fun z => (up d z).elim n fun q => (by rw [q] at h1; cases h1), fv, h1, h2, h3.up up⟩
theorem PvAt.fr (h : PvAt G w l σ H v p) (fr : ∀ b o, (¬ G.av w b ∨ w b = some l) → H b = some o → H' b = some o) : PvAt G w l σ H' v p := by
  cases p with
  | sh t => exact Dn.fr (fun b o n => fr b o (.inl n)) h
  | fz t => exact Dn.fr (fun b o n => fr b o (.inl n)) h
  | ow t =>
    obtain ⟨a, F, e, o, f⟩ := h
    exact ⟨a, F, e, o.fr fun b o' n => fr b o' (n.imp id (f b)), f⟩
  | al j => exact h
  | io t => exact ⟨h.1, h.2.1.fr fun b o' n => fr b o' (n.imp id (h.2.2 b)), h.2.2⟩
  | cx a d C fs =>
    obtain ⟨e, n, fv, h1, h2, h3⟩ := h
    exact ⟨e, n, fv, fr _ _ (.inl n) h1, h2, h3.fr fun b o n => fr b o (.inl n)⟩
theorem StkAt.up (hs : ∀ (v : V) (j : Nat), (v, PV.al j) ∈ S → σ'[j]? = σ[j]?) (up : ∀ b, G.av w' b → G.av w b ∨ H b = none) (kp : ∀ b j, j < S.length → w b = some (.pn j) → w' b = some (.pn j)) (h : StkAt G w σ H S) : StkAt G w' σ' H S := by
  induction S with
  | nil => trivial
  | cons q S ih =>
    obtain ⟨v, p⟩ := q
    exact ⟨h.1.up (fun j e => hs v j (by rw [e]; exact List.mem_cons_self)) up fun b e => kp b _ (by simp) e,
      ih (fun v j m => hs v j (List.mem_cons_of_mem _ m)) (fun b j hj e => kp b j (by simp; omega) e) h.2⟩
theorem StkAt.fr (fr : ∀ b o, (¬ G.av w b ∨ ∃ j, j < S.length ∧ w b = some (.pn j)) → H b = some o → H' b = some o) (h : StkAt G w σ H S) : StkAt G w σ H' S := by
  induction S with
  | nil => trivial
  | cons q S ih =>
    obtain ⟨v, p⟩ := q
    exact ⟨h.1.fr fun b o z => fr b o (z.imp id fun e => ⟨_, by simp, e⟩), ih (fun b o z => fr b o (z.imp id fun ⟨j, hj, e⟩ => ⟨j, by simp; omega, e⟩)) h.2⟩
theorem RO.same (r : RO G w ρ σ S H) (s : Same H H') : RO G w ρ σ S H' := by
  refine ⟨r.len, fun i p x hp hx => ?_, r.stk.fr fun b o _ => s b o, fun a l e => ?_, fun b o n e => s _ _ (r.frame b o n e), r.avs, r.als⟩
  · obtain ⟨v, e, z⟩ := r.slot i p x hp hx
    exact ⟨v, e, z.fr fun b o _ => s b o⟩
  · obtain ⟨h1, h2, h3⟩ := r.own a l e
    exact ⟨h1, h2, h3.same fun o => s _ o⟩
theorem PvAt.lk {h0 : Hp} (h : PvAt G w l σ H v p) (f : ∀ b o, ¬ G.av w b → H b = some o → NotD o → H' b = some o) (g : ∀ b ks, ¬ G.av w b → Rd H b (.dK ks) → Rd H' b (.dK ks)) (hw : ∀ b, w b = some l → H' b = H b) : PvAt { G with H0 := h0 } w l σ H' v p := by
  cases p with
  | sh t => exact Dn.lk f g h
  | fz t => exact Dn.lk f g h
  | ow t =>
    obtain ⟨a, F, e, o, k⟩ := h
    exact ⟨a, F, e, o.lk f g fun b hb => hw b (k b hb), k⟩
  | al j => exact h
  | io t => exact ⟨h.1, h.2.1.lk f g fun b hb => hw b (h.2.2 b hb), h.2.2⟩
  | cx a d C fs =>
    obtain ⟨e, n, fv, h1, h2, h3⟩ := h
    exact ⟨e, n, fv, f _ _ n h1 ⟨fun _ z => (by cases z), fun _ _ z => (by cases z)⟩, h2, h3.lk f g⟩
theorem StkAt.lk {h0 : Hp} (f : ∀ b o, ¬ G.av w b → H b = some o → NotD o → H' b = some o) (g : ∀ b ks, ¬ G.av w b → Rd H b (.dK ks) → Rd H' b (.dK ks)) (hw : ∀ b l, w b = some l → H' b = H b) : ∀ {S : Stk}, StkAt G w σ H S → StkAt { G with H0 := h0 } w σ H' S
  | [], _ => trivial
  | (_, _) :: _, h => ⟨h.1.lk f g fun b e => hw b _ e, StkAt.lk f g hw h.2⟩
theorem RO.lk {h0 : Hp} (r : RO G w ρ σ S H) (f : ∀ b o, ¬ G.av w b → H b = some o → NotD o → H' b = some o) (g : ∀ b ks, ¬ G.av w b → Rd H b (.dK ks) → Rd H' b (.dK ks)) (hw : ∀ b l, w b = some l → H' b = H b)
    (hf : ∀ b o, b ∉ G.io → h0 b = some o → H' b = some o) (ho : ∀ b l, w b = some l → h0 b = none ∨ b ∈ G.io) (hv : ∀ a, G.AV a → Liv h0 a) : RO { G with H0 := h0 } w ρ σ S H' := by
  refine ⟨r.len, fun i p x hp hx => ?_, r.stk.lk f g hw, fun a l e => ?_, hf, fun a z => ⟨(r.avs a z).1, hv a z⟩, r.als⟩
  · obtain ⟨v, e, z⟩ := r.slot i p x hp hx
    exact ⟨v, e, z.lk f g fun b e => hw b _ e⟩
  · obtain ⟨h1, h2, o, h3, h4⟩ := r.own a l e
    exact ⟨h1, ho a l e, o, by rw [hw a l e]; exact h3, h4⟩
theorem R.same (r : R G ρ σ S H) (s : Same H H') : R G ρ σ S H' := let ⟨w, r⟩ := r; ⟨w, r.same s⟩
theorem RO.pop {q : V × PV} (r : RO G w ρ σ (q :: S) H) : RO G w ρ σ S H := ⟨r.len, r.slot, r.stk.2, r.own, r.frame, r.avs, fun v j m => r.als v j (List.mem_cons_of_mem _ m)⟩
theorem R.pop {q : V × PV} (r : R G ρ σ (q :: S) H) : R G ρ σ S H := let ⟨w, r⟩ := r; ⟨w, r.pop⟩
theorem R.pop2 {q u : V × PV} (r : R G ρ σ (q :: u :: S) H) : R G ρ σ S H := r.pop.pop
theorem RO.top (r : RO G w ρ σ ((v, p) :: S) H) : PvAt G w (.pn S.length) σ H v p := r.stk.1
theorem RO.push (r : RO G w ρ σ S H) (h : PvAt G w (.pn S.length) σ H v p) (al : ∀ j, p = .al j → ∃ t, ρ[j]? = some (some (.ow t)) ∨ ρ[j]? = some (some (.fz t)) ∨ ρ[j]? = some (some (.io t)) := by intro j z; cases z) : RO G w ρ σ ((v, p) :: S) H :=
  ⟨r.len, r.slot, ⟨h, r.stk⟩, r.own, r.frame, r.avs, fun u j m => (List.mem_cons.mp m).elim (fun e => al j (by cases e; rfl)) (r.als u j)⟩
/-- a leaf needs no heap -/
theorem R.leaf {t : T} (r : R G ρ σ S H) (h : ∀ av H, Dn av H v t) : R G ρ σ ((v, .sh t) :: S) H := let ⟨w, r⟩ := r; ⟨w, r.push (h _ _)⟩
theorem RO.fresh (r : RO G w ρ σ S H) {a : Addr} (h : H a = none) : w a = none ∧ ¬ G.AV a := by
  constructor
  · cases e : w a with
    | none => rfl
    | some l => obtain ⟨_, _, o, q, _⟩ := r.own a l e; rw [h] at q; cases q
  · intro z
    obtain ⟨n, o, e, _⟩ := r.avs a z
    rw [r.frame a o n e] at h
    cases h
/-- new objects: ours, held -/
theorem RO.new {a : Addr} {t : T} {F : List Addr} (r : RO G w ρ σ S H) (s : Same H H') (hF : ∀ b ∈ F, H b = none ∧ Liv H' b)
    (ow : Own (fun b => G.av w b ∨ b ∈ F) H' a t F) : R G ρ σ ((.ref a, .ow t) :: S) H' := by
  have fw : ∀ b l, w b = some l → b ∉ F := fun b l e hb => by
    have := (r.fresh (hF b hb).1).1
    rw [this] at e; cases e
  let w1 : Addr → Option Loc := fun b => open Classical in if b ∈ F then some (.pn S.length) else w b
  have kp : ∀ b l, w b = some l → w1 b = some l := fun b l e => by
    show (open Classical in if b ∈ F then _ else _) = _
    rw [if_neg (fw b l e), e]
  have up2 : ∀ b, G.av w1 b → G.av w b ∨ b ∈ F := fun b z => by
    rcases z with z | ⟨l, z⟩
    · exact .inl (.inl z)
    · by_cases c : b ∈ F
      · exact .inr c
      · have e : w1 b = w b := if_neg c
        rw [e] at z
        exact .inl (.inr ⟨l, z⟩)
  have up : ∀ b, G.av w1 b → G.av w b ∨ H b = none := fun b z => (up2 b z).imp id fun m => (hF b m).1
  refine ⟨w1, r.len, fun i p x hp hx => ?_, ⟨⟨a, F, rfl, ow.up fun b z => .inl (up2 b z), fun b hb => if_pos hb⟩, ?_⟩, fun b l e => ?_, fun b o n e => s _ _ (r.frame b o n e), r.avs, fun u j m => (List.mem_cons.mp m).elim (fun e => by cases e) (r.als u j)⟩
  · obtain ⟨v, e, z⟩ := r.slot i p x hp hx
    exact ⟨v, e, (z.up (fun _ _ => rfl) up fun b => kp b _).fr fun b o _ => s b o⟩
  · exact (r.stk.up (fun _ _ _ => rfl) up fun b j _ => kp b _).fr fun b o _ => s b o
  · by_cases c : b ∈ F
    · obtain ⟨h1, h2⟩ := hF b c
      refine ⟨(r.fresh h1).2, ?_, h2⟩
      by_cases d : b ∈ G.io
      · exact .inr d
      · refine .inl ?_
        cases q : G.H0 b with
        | none => rfl
        | some o => rw [r.frame b o d q] at h1; cases h1
    · have e' : w1 b = w b := if_neg c
      rw [e'] at e
      obtain ⟨h1, h2, h3⟩ := r.own b l e
      exact ⟨h1, h2, h3.same fun o => s _ o⟩
theorem StkAt.imp (f : ∀ j v p, j < S.length → PvAt G w (.pn j) σ H v p → PvAt G w' (.pn j) σ H' v p) (h : StkAt G w σ H S) : StkAt G w' σ H' S := by
  induction S with
  | nil => trivial
  | cons q S ih =>
    obtain ⟨v, p⟩ := q
    exact ⟨f _ _ _ (by simp) h.1, ih (fun j v p hj z => f j v p (by simp; omega) z) h.2⟩
theorem StkAt.repl {p' : PV} (f : ∀ j v p, j ≠ S.length → PvAt G w (.pn j) σ H v p → PvAt G w' (.pn j) σ H v p) (h' : PvAt G w' (.pn S.length) σ H v p') : ∀ {A : Stk}, StkAt G w σ H (A ++ (v, p) :: S) → StkAt G w' σ H (A ++ (v, p') :: S)
  | [], h => ⟨h', h.2.imp fun j v p hj z => f j v p (by omega) z⟩
  | (u, q) :: A, h => by
    refine ⟨?_, StkAt.repl f h' h.2⟩
    have z : PvAt G w (.pn (A ++ (v, p) :: S).length) σ H u q := h.1
    have e : (A ++ (v, p) :: S).length = (A ++ (v, p') :: S).length := by simp
    rw [e] at z
    exact f _ _ _ (by simp; omega) z
theorem StkAt.get : ∀ {A : Stk}, StkAt G w σ H (A ++ (v, p) :: S) → PvAt G w (.pn S.length) σ H v p
  | [], h => h.1
  | _ :: A, h => StkAt.get (A := A) h.2
/-- what is held is no more ours, the tree stays -/
theorem RO.thawAt {t : T} {A : Stk} (r : RO G w ρ σ (A ++ (v, .ow t) :: S) H) (tr : t.tree) : R G ρ σ (A ++ (v, .sh t) :: S) H := by
  obtain ⟨a, F, rfl, o, f⟩ := r.stk.get
  let w1 : Addr → Option Loc := fun b => if w b = some (.pn S.length) then none else w b
  have lt : ∀ b, G.av w1 b → G.av w b := fun b z => by
    rcases z with z | ⟨l, z⟩
    · exact .inl z
    · refine .inr ⟨l, ?_⟩
      by_cases c : w b = some (.pn S.length)
      · have e : w1 b = none := if_pos c
        rw [e] at z; cases z
      · have e : w1 b = w b := if_neg c
        rwa [e] at z
  have kp : ∀ b l, l ≠ .pn S.length → w b = some l → w1 b = some l := fun b l n e => by
    show (if _ then _ else _) = _
    rw [if_neg (by rw [e]; intro z; exact n (Option.some.inj z)), e]
  have dd : PvAt G w1 (.pn S.length) σ H (.ref a) (.sh t) := o.dn tr (fun b hb z => by
    have fb := f b hb
    rcases z with z | ⟨l, z⟩
    · exact (r.own b _ fb).1 z
    · have e : w1 b = none := if_pos fb
      rw [e] at z; cases z) lt
  refine ⟨w1, r.len, fun i p x hp hx => ?_, r.stk.repl (fun j v p n z => z.up (fun _ _ => rfl) (fun b z => .inl (lt b z)) fun b e => kp b _ (by intro z; injection z with z; exact n z) e) dd, fun b l e => ?_, r.frame, r.avs, fun u j m => r.als u j (by
    rw [List.mem_append, List.mem_cons] at m ⊢
    rcases m with m | m | m
    · exact .inl m
    · cases m
    · exact .inr (.inr m))⟩
  · obtain ⟨v, e, z⟩ := r.slot i p x hp hx
    exact ⟨v, e, z.up (fun _ _ => rfl) (fun b z => .inl (lt b z)) fun b e => kp b _ (fun z => by cases z) e⟩
  · by_cases c : w b = some (.pn S.length)
    · have e' : w1 b = none := if_pos c
      rw [e'] at e; cases e
    · have e' : w1 b = w b := if_neg c
      rw [e'] at e
      exact r.own b l e
theorem R.thawAt {t : T} {A : Stk} (r : R G ρ σ (A ++ (v, .ow t) :: S) H) (tr : t.tree) : R G ρ σ (A ++ (v, .sh t) :: S) H := let ⟨_, r⟩ := r; r.thawAt tr
theorem R.thaw {t : T} (r : R G ρ σ ((v, .ow t) :: S) H) (tr : t.tree) : R G ρ σ ((v, .sh t) :: S) H := R.thawAt (A := []) r tr
/-- no alias is held -/
def NoAl (S : Stk) : Prop := ∀ v j, (v, PV.al j) ∉ S
theorem NoAl.nil : NoAl [] := fun _ _ h => by cases h
theorem NoAl.sh {t : T} (h : NoAl S) : NoAl ((v, .sh t) :: S) := fun _ _ m => (List.mem_cons.mp m).elim (fun e => by cases e) (h _ _)
theorem NoAl.tail {q : V × PV} (h : NoAl (q :: S)) : NoAl S := fun v j m => h v j (List.mem_cons_of_mem _ m)
/-- no alias of this place is held -/
def NoAlAt (i : Nat) (S : Stk) : Prop := ∀ v j, (v, PV.al j) ∈ S → j ≠ i
theorem NoAl.at (h : NoAl S) (i : Nat) : NoAlAt i S := fun v j m => absurd m (h v j)
/-- the words of one place are forgotten, or given another place's name -/
theorem RO.slots (r : RO G w ρ σ S H) {i : Nat} {po : Option PV} {x : Option V} (up : ∀ b, G.av w' b → G.av w b) (kp : ∀ b l, l ≠ .sl i → (∀ j, l = .pn j → j < S.length) → w b = some l → w' b = some l) (ow : ∀ b l, w' b = some l → ∃ l, w b = some l)
    (hS : NoAlAt i S) (h : ∀ p, po = some p → ∃ v, x = some v ∧ PvAt G w' (.sl i) [] H v p) : RO G w' (ρ.set i po) (σ.set i x) S H := by
  refine ⟨by simp [r.len], fun k p y hp hy => ?_, r.stk.up (fun v j m => by rw [List.getElem?_set_ne (Ne.symm (hS v j m))]) (fun b z => .inl (up b z)) fun b j hj e => kp b _ (by intro z; cases z) (fun k e => by cases e; exact hj) e, fun b l e => ?_, r.frame, r.avs, fun v j m => by rw [List.getElem?_set_ne (Ne.symm (hS v j m))]; exact r.als v j m⟩
  · by_cases c : i = k
    · subst c
      have hl : i < ρ.length := by
        false_or_by_contra
        rename_i z
        rw [List.getElem?_eq_none (by simp; omega)] at hp; cases hp
      rw [List.getElem?_set_self hl] at hp
      rw [List.getElem?_set_self (by rw [← r.len]; exact hl)] at hy
      cases hy
      exact h p (Option.some.inj hp)
    · rw [List.getElem?_set_ne c] at hp hy
      obtain ⟨v, e, z⟩ := r.slot k p y hp hy
      exact ⟨v, e, z.up (fun _ _ => rfl) (fun b z => .inl (up b z)) fun b e => kp b _ (fun z => c (by cases z; rfl)) (fun j z => by cases z) e⟩
  · obtain ⟨l', e'⟩ := ow b l e
    exact r.own b l' e' |> fun ⟨a, b, c⟩ => ⟨a, b, c⟩
theorem R.forget (r : R G ρ σ S H) (i : Nat) (x : Option V) (hS : NoAlAt i S) : R G (ρ.set i none) (σ.set i x) S H := by
  obtain ⟨w, r⟩ := r
  exact ⟨w, r.slots (fun _ z => z) (fun _ _ _ _ z => z) (fun b l e => ⟨l, e⟩) hS fun p e => by cases e⟩
/-- what is held goes to a place -/
theorem R.store (r : R G ρ σ ((v, p) :: S) H) (i : Nat) (hS : NoAlAt i S) (hp : ∀ j, p ≠ .al j) : R G (ρ.set i (some p)) (σ.set i (some v)) S H := by
  obtain ⟨w, r⟩ := r
  let w1 : Addr → Option Loc := fun b => if w b = some (.pn S.length) then some (.sl i) else if w b = some (.sl i) then none else w b
  have c1 : ∀ b, w b = some (.pn S.length) → w1 b = some (.sl i) := fun b e => if_pos e
  have c2 : ∀ b, w b ≠ some (.pn S.length) → w b = some (.sl i) → w1 b = none := fun b n e => (if_neg n).trans (if_pos e)
  have c3 : ∀ b, w b ≠ some (.pn S.length) → w b ≠ some (.sl i) → w1 b = w b := fun b n e => (if_neg n).trans (if_neg e)
  have lt : ∀ b l, w1 b = some l → ∃ l, w b = some l := fun b l z => by
    by_cases d1 : w b = some (.pn S.length)
    · exact ⟨_, d1⟩
    · by_cases d2 : w b = some (.sl i)
      · exact ⟨_, d2⟩
      · exact ⟨l, (c3 b d1 d2).symm.trans z⟩
  have up : ∀ b, G.av w1 b → G.av w b := fun b z => z.imp id fun ⟨l, z⟩ => lt b l z
  refine ⟨w1, r.pop.slots up (fun b l n k e => ?_) lt hS fun q e => ⟨v, rfl, ?_⟩⟩
  · refine (c3 b (fun z => ?_) (fun z => ?_)).trans e
    · rw [z] at e; cases e; have := k _ rfl; omega
    · rw [z] at e; cases e; exact n rfl
  · cases e
    have z := r.top
    cases p with
    | sh t => exact Dn.up (fun b z => .inl (up b z)) z
    | fz t => exact Dn.up (fun b z => .inl (up b z)) z
    | ow t =>
      obtain ⟨a, F, e, o, f⟩ := z
      exact ⟨a, F, e, o.up fun b z => .inl (up b z), fun b hb => c1 b (f b hb)⟩
    | al j => exact absurd rfl (hp j)
    | io t => exact ⟨z.1, z.2.1.up fun b z => .inl (up b z), fun b hb => c1 b (z.2.2 b hb)⟩
    | cx a d C fs =>
      obtain ⟨e, n, fv, h1, h2, h3⟩ := z
      exact ⟨e, fun y => n (up _ y), fv, h1, h2, h3.up fun b z => .inl (up b z)⟩
theorem set_same {α : Type} {l : List α} {i : Nat} {x : α} (h : l[i]? = some x) : l.set i x = l := by
  apply List.ext_getElem?
  intro k
  by_cases c : i = k
  · subst c
    have hl : i < l.length := by
      false_or_by_contra
      rw [List.getElem?_eq_none (by omega)] at h; cases h
    rw [List.getElem?_set_self hl, h]
  · rw [List.getElem?_set_ne c]
theorem RO.at_slot (r : RO G w ρ σ S H) {i : Nat} {p : PV} (h : ρ[i]? = some (some p)) : ∃ v, σ[i]? = some (some v) ∧ PvAt G w (.sl i) [] H v p := by
  have hl : i < ρ.length := by
    false_or_by_contra
    rw [List.getElem?_eq_none (by omega)] at h; cases h
  have hx := List.getElem?_eq_getElem (l := σ) (i := i) (by rw [← r.len]; exact hl)
  obtain ⟨v, e, z⟩ := r.slot i p _ h hx
  exact ⟨v, by rw [hx, e], z⟩
/-- a place's own thing is let go -/
theorem R.thawSlot {i : Nat} {t : T} (r : R G ρ σ S H) (h : ρ[i]? = some (some (.ow t))) (tr : t.tree) : R G (ρ.set i (some (.fz t))) σ S H := by
  obtain ⟨w, r⟩ := r
  obtain ⟨v, hv, ⟨a, F, rfl, o, f⟩⟩ := r.at_slot h
  let w1 : Addr → Option Loc := fun b => if w b = some (.sl i) then none else w b
  have lt : ∀ b l, w1 b = some l → ∃ l, w b = some l := fun b l z => by
    by_cases c : w b = some (.sl i)
    · exact ⟨_, c⟩
    · have e : w1 b = w b := if_neg c
      exact ⟨l, e.symm.trans z⟩
  have up : ∀ b, G.av w1 b → G.av w b := fun b z => z.imp id fun ⟨l, z⟩ => lt b l z
  have kp : ∀ b l, l ≠ .sl i → w b = some l → w1 b = some l := fun b l n e => by
    show (if _ then _ else _) = _
    rw [if_neg (by rw [e]; intro z; exact n (Option.some.inj z)), e]
  refine ⟨w1, by simp [r.len], fun k p y hp hy => ?_, r.stk.up (fun _ _ _ => rfl) (fun b z => .inl (up b z)) fun b j hj e => kp b _ (by intro z; cases z) e, fun b l e => ?_, r.frame, r.avs, fun v j m => ?_⟩
  · by_cases c : i = k
    · subst c
      rw [hv] at hy; cases hy
      have hl : i < ρ.length := by
        false_or_by_contra
        rw [List.getElem?_eq_none (by omega)] at h; cases h
      rw [List.getElem?_set_self hl] at hp
      cases hp
      refine ⟨_, rfl, o.dn tr (fun b hb z => ?_) up⟩
      have fb := f b hb
      rcases z with z | ⟨l, z⟩
      · exact (r.own b _ fb).1 z
      · have e : w1 b = none := if_pos fb
        rw [e] at z; cases z
    · rw [List.getElem?_set_ne c] at hp
      obtain ⟨v, e, z⟩ := r.slot k p y hp hy
      exact ⟨v, e, z.up (fun _ _ => rfl) (fun b z => .inl (up b z)) fun b e => kp b _ (fun z => c (by cases z; rfl)) e⟩
  · obtain ⟨l', e'⟩ := lt b l e
    exact r.own b l' e'
  · obtain ⟨u, hu⟩ := r.als v j m
    by_cases c : i = j
    · subst c
      have hl : i < ρ.length := by
        false_or_by_contra
        rw [List.getElem?_eq_none (by omega)] at h; cases h
      exact ⟨t, .inr (.inl (List.getElem?_set_self hl))⟩
    · exact ⟨u, by rw [List.getElem?_set_ne c]; exact hu⟩
/-- a place's own thing changes -/
theorem RO.change {i : Nat} {a : Addr} {t : T} {F : List Addr} (r : RO G w ρ σ S H) (hv : σ[i]? = some (some (.ref a))) (fr : ∀ b o, w b ≠ some (.sl i) → H b = some o → H' b = some o)
    (o : Own (G.av w) H' a t F) (hF : ∀ b ∈ F, w b = some (.sl i)) (lv : ∀ b, w b = some (.sl i) → Liv H' b) : RO G w (ρ.set i (some (.ow t))) σ S H' := by
  have nn : ∀ b, ¬ G.av w b → w b ≠ some (.sl i) := fun b n z => n (.inr ⟨_, z⟩)
  refine ⟨by simp [r.len], fun k p y hp hy => ?_, r.stk.fr fun b o z => fr b o (z.elim (nn b) fun ⟨j, _, e⟩ z => by rw [e] at z; cases z), fun b l e => ?_, fun b o n e => fr b o (fun z => ?_) (r.frame b o n e), r.avs, fun v j m => ?_⟩
  · by_cases c : i = k
    · subst c
      have hl : i < ρ.length := by
        false_or_by_contra
        rename_i z
        rw [List.getElem?_eq_none (by simp; omega)] at hp; cases hp
      rw [hv] at hy; cases hy
      rw [List.getElem?_set_self hl] at hp
      cases hp
      exact ⟨_, rfl, a, F, rfl, o, hF⟩
    · rw [List.getElem?_set_ne c] at hp
      obtain ⟨v, e, z⟩ := r.slot k p y hp hy
      exact ⟨v, e, z.fr fun b o z => fr b o (z.elim (nn b) fun e z => by rw [e] at z; cases z; exact c rfl)⟩
  · obtain ⟨h1, h2, h3⟩ := r.own b l e
    by_cases c : w b = some (.sl i)
    · exact ⟨h1, h2, lv b c⟩
    · exact ⟨h1, h2, h3.same fun u => fr b u c⟩
  · rcases (r.own b _ z).2.1 with q | q
    · rw [q] at e; cases e
    · exact n q
  · obtain ⟨u, hu⟩ := r.als v j m
    by_cases c : i = j
    · subst c
      have hl : i < ρ.length := by
        false_or_by_contra
        rcases hu with hu | hu | hu <;> (rw [List.getElem?_eq_none (by omega)] at hu; cases hu)
      exact ⟨t, .inl (List.getElem?_set_self hl)⟩
    · exact ⟨u, by rw [List.getElem?_set_ne c]; exact hu⟩
end
end LP
end
section
set_option maxRecDepth 100000
set_option maxHeartbeats 4000000
namespace LP
open PySem L2 LH
/-! ### reading trees -/
def T.tr : T → Bool
  | .opq _ => false
  | _ => true
theorem T.tree_of {t : T} (h : t.tr = true) : t.tree := by cases t <;> first | trivial | cases h
def val (ρ : Env) : PV → Option T
  | .sh t => some t
  | .ow t => some t
  | .fz t => some t
  | .io t => some t
  | .cx _ _ _ _ => none
  | .al j => match ρ[j]? with
    | some (some (.fz t)) => some t
    | some (some (.io t)) => some t
    | some (some (.ow t)) => some t
    | _ => none
def vals (ρ : Env) : List PV → Option (List T)
  | [] => some []
  | p :: ps => match val ρ p, vals ρ ps with
    | some t, some ts => some (t :: ts)
    | _, _ => none
/-- let go: the tree, and the slots behind -/
def frz (ρ : Env) : PV → Option (T × Env)
  | .sh t => some (t, ρ)
  | .fz t => some (t, ρ)
  | .io _ => none
  | .cx _ _ _ _ => none
  | .ow t => if t.tr = true then some (t, ρ) else none
  | .al j => match ρ[j]? with
    | some (some (.fz t)) => some (t, ρ)
    | some (some (.ow t)) => if t.tr = true then some (t, ρ.set j (some (.fz t))) else none
    | _ => none
def frzs (ρ : Env) : List PV → Option (List T × Env)
  | [] => some ([], ρ)
  | p :: ps => match frz ρ p with
    | some (t, ρ1) => match frzs ρ1 ps with
      | some (ts, ρ2) => some (t :: ts, ρ2)
      | none => none
    | none => none
/-- kept as it is, an alias let go -/
def stv (ρ : Env) : PV → Option (PV × Env)
  | .sh t => some (.sh t, ρ)
  | .fz t => some (.sh t, ρ)
  | .io _ => none
  | .cx a d C fs => some (.cx a d C fs, ρ)
  | .ow t => some (.ow t, ρ)
  | .al j => match ρ[j]? with
    | some (some (.fz t)) => some (.sh t, ρ)
    | some (some (.ow t)) => if t.tr = true then some (.sh t, ρ.set j (some (.fz t))) else none
    | _ => none
/-- a tree at x, whose parts avoid av -/
def Rk (av : Addr → Prop) (H : Hp) (x : V) (t : T) : Prop := Dn av H x t ∨ ∃ a F, x = .ref a ∧ Own av H a t F
inductive Rks (av : Addr → Prop) (H : Hp) : List V → List T → Prop
  | nil : Rks av H [] []
  | cons {v : V} {t : T} {vs : List V} {ts : List T} : Rk av H v t → Rks av H vs ts → Rks av H (v :: vs) (t :: ts)
section
variable {av : Addr → Prop} {H : Hp} {x : V}
theorem Rk.non (h : Rk av H x .non) : x = .non := by rcases h with h | ⟨_, _, _, h⟩ <;> cases h; rfl
theorem Rk.int {i : Int} (h : Rk av H x (.int i)) : x = .int i := by rcases h with h | ⟨_, _, _, h⟩ <;> cases h; rfl
theorem Rk.bl {b : Bool} (h : Rk av H x (.bl b)) : x = .bl b := by rcases h with h | ⟨_, _, _, h⟩ <;> cases h; rfl
theorem Rk.str {z : Str} (h : Rk av H x (.str z)) : x = .str z := by rcases h with h | ⟨_, _, _, h⟩ <;> cases h; rfl
theorem Rk.cls {a : Addr} (h : Rk av H x (.cls a)) : x = .ref a := by rcases h with h | ⟨_, _, _, h⟩ <;> cases h; rfl
theorem Rk.ty {n : String} (h : Rk av H x (.ty n)) : x = .ty n := by rcases h with h | ⟨_, _, _, h⟩ <;> cases h; rfl
theorem Rk.scr {K : PySem.W.Frag} {ns : List Int} (h : Rk av H x (.scr K ns)) : ∃ a, x = .ref a ∧ SqL K H a (ns.map V.int) := by
  rcases h with h | ⟨_, _, _, h⟩
  · cases h with
    | scrH n e => exact ⟨_, rfl, .inl e⟩
    | scrK e => exact ⟨_, rfl, .inr e⟩
  · cases h
theorem Rk.lst {ts : List T} (h : Rk av H x (.lst ts)) : ∃ a vs, x = .ref a ∧ H a = some (.lst vs) ∧ Dns av H vs ts := by
  rcases h with h | ⟨a, _, rfl, _, vs, e, d⟩
  · cases h with | lst _ e d => exact ⟨_, _, rfl, e, d⟩
  · exact ⟨a, vs, rfl, e, d⟩
theorem Rk.tup {ts : List T} (h : Rk av H x (.tup ts)) : ∃ a vs, x = .ref a ∧ H a = some (.tup vs) ∧ Dns av H vs ts := by
  rcases h with h | ⟨a, _, rfl, h⟩
  · cases h with | tup _ e d => exact ⟨_, _, rfl, e, d⟩
  · exact h.elim
theorem Rk.dic {kt : List (Key × T)} (h : Rk av H x (.dic kt)) : ∃ a ks, x = .ref a ∧ Rd H a (.dK ks) ∧ ks.map Prod.fst = kt.map Prod.fst ∧ Dns av H (ks.map Prod.snd) (kt.map Prod.snd) := by
  rcases h with h | ⟨a, _, rfl, _, ks, e, k, d⟩
  · cases h with | dic _ e k d => exact ⟨_, _, rfl, e, k, d⟩
  · exact ⟨a, ks, rfl, .inl e, k, d⟩
theorem Rk.dit {kt : List (List Key × T)} (h : Rk av H x (.dit kt)) : ∃ a ks, x = .ref a ∧ H a = some (.dT ks) ∧ ks.map Prod.fst = kt.map Prod.fst ∧ Dns av H (ks.map Prod.snd) (kt.map Prod.snd) := by
  rcases h with h | ⟨a, _, rfl, _, ks, e, k, d⟩
  · cases h with | dit _ e k d => exact ⟨_, _, rfl, e, k, d⟩
  · exact ⟨a, ks, rfl, e, k, d⟩
theorem Rk.ins {C : Addr} {ft : List (Str × T)} (h : Rk av H x (.ins C ft)) : ∃ a dx fs, x = .ref a ∧ H a = some (.ins C dx fs) ∧ fs.map Prod.fst = ft.map Prod.fst ∧ Dns av H (fs.map Prod.snd) (ft.map Prod.snd) := by
  rcases h with h | ⟨a, _, rfl, _, dx, fs, e, k, d⟩
  · cases h with | ins _ e k d => exact ⟨_, _, _, rfl, e, k, d⟩
  · exact ⟨a, dx, fs, rfl, e, k, d⟩
end
/-- what comes behind a step: nothing is lost -/
def Nw (av : Addr → Prop) (H H' : Hp) (v : V) : PV → Prop
  | .sh t => Same H H' ∧ Dn av H' v t
  | .ow t => ∃ a F, v = .ref a ∧ Same H H' ∧ (∀ b ∈ F, H b = none ∧ Liv H' b) ∧ ∀ av1 : Addr → Prop, (∀ b, av1 b → av b ∨ H b = none) → Own av1 H' a t F
  | _ => False
section
variable {G : Gh} {w : Addr → Option Loc} {l : Loc} {ρ ρ' : Env} {σ : St} {S : Stk} {H H' : Hp} {v : V} {p : PV} {t : T}
theorem RO.res (r : RO G w ρ σ S H) (h : Nw (G.av w) H H' v p) : R G ρ σ ((v, p) :: S) H' := by
  cases p with
  | sh t => exact ⟨w, (r.same h.1).push h.2⟩
  | ow t => obtain ⟨a, F, rfl, s, hF, o⟩ := h; exact r.new s hF (o _ fun b z => z.imp id fun m => (hF b m).1)
  | al j => exact h.elim
  | fz t => exact h.elim
  | io t => exact h.elim
  | cx a d C fs => exact h.elim
theorem Nw.here {av : Addr → Prop} (h : Dn av H v t) : Nw av H H v (.sh t) := ⟨Same.refl H, h⟩
theorem own_fresh {av : Addr → Prop} {a : Addr} {o : HO} (n : H a = none) (nt : ∀ xs, o ≠ .tup xs) : ∀ b ∈ [a], H b = none ∧ Liv (upd H a o) b := fun b hb => by
  rw [List.mem_singleton.mp hb]
  exact ⟨n, _, upd_same, nt⟩
theorem Dns.new {av av1 : Addr → Prop} {a : Addr} {o : HO} {vs : List V} {ts : List T} (d : Dns av H vs ts) (n : H a = none) (up : ∀ b, av1 b → av b ∨ H b = none) : Dns av1 (upd H a o) vs ts :=
  (d.up up).fr fun b u _ e => by rw [upd_ne (ne_of_none e n)]; exact e
theorem Nw.lst {av : Addr → Prop} {a : Addr} {vs : List V} {ts : List T} (n : H a = none) (d : Dns av H vs ts) : Nw av H (upd H a (.lst vs)) (.ref a) (.ow (.lst ts)) :=
  ⟨a, [a], rfl, Same.new (Same.refl H) n, own_fresh (av := av) n (fun _ z => by cases z), fun av1 up => ⟨rfl, vs, upd_same, d.new n up⟩⟩
theorem Nw.dic {av : Addr → Prop} {a : Addr} {ks : List (Key × V)} {kt : List (Key × T)} (n : H a = none) (k : ks.map Prod.fst = kt.map Prod.fst) (d : Dns av H (ks.map Prod.snd) (kt.map Prod.snd)) : Nw av H (upd H a (.dK ks)) (.ref a) (.ow (.dic kt)) :=
  ⟨a, [a], rfl, Same.new (Same.refl H) n, own_fresh (av := av) n (fun _ z => by cases z), fun av1 up => ⟨rfl, ks, upd_same, k, d.new n up⟩⟩
theorem Nw.tup {av : Addr → Prop} {a : Addr} {vs : List V} {ts : List T} (n : H a = none) (na : ¬ av a) (d : Dns av H vs ts) : Nw av H (upd H a (.tup vs)) (.ref a) (.sh (.tup ts)) :=
  ⟨Same.new (Same.refl H) n, .tup na upd_same (d.new n fun _ z => .inl z)⟩
theorem RO.rk (r : RO G w ρ σ S H) (h : PvAt G w l σ H v p) (e : val ρ p = some t) : Rk (G.av w) H v t := by
  cases p with
  | sh u => cases e; exact .inl h
  | ow u => cases e; obtain ⟨a, F, e, o, _⟩ := h; exact .inr ⟨a, F, e, o⟩
  | fz u => cases e; exact .inl h
  | io u => cases e; exact .inr ⟨_, _, h.1, h.2.1⟩
  | cx a d C fs => cases e
  | al j =>
    have hj : σ[j]? = some (some v) := h
    dsimp only [val] at e
    split at e
    · next u q =>
      cases e
      obtain ⟨x, hx, z⟩ := r.at_slot q
      rw [hj] at hx; cases hx
      exact .inl z
    · next u q =>
      cases e
      obtain ⟨x, hx, z⟩ := r.at_slot q
      rw [hj] at hx; cases hx
      exact .inr ⟨_, _, z.1, z.2.1⟩
    · next u q =>
      cases e
      obtain ⟨x, hx, a, F, e, o, _⟩ := r.at_slot q
      rw [hj] at hx; cases hx
      exact .inr ⟨a, F, e, o⟩
    · cases e
/-- pushed one after another -/
def psh : List V → List PV → Stk → Stk
  | v :: vs, p :: ps, S => psh vs ps ((v, p) :: S)
  | _, _, S => S
theorem StkAt.psh : ∀ {vs : List V} {ps : List PV} {S : Stk}, StkAt G w σ H (psh vs ps S) → StkAt G w σ H S
  | [], [], _, h => h
  | [], _ :: _, _, h => h
  | _ :: _, [], _, h => h
  | _ :: vs, _ :: ps, S, h => (StkAt.psh (vs := vs) (ps := ps) h).2
theorem mem_psh : ∀ {vs : List V} {ps : List PV} {S : Stk} {q : V × PV}, q ∈ S → q ∈ psh vs ps S
  | [], [], _, _, h => h
  | [], _ :: _, _, _, h => h
  | _ :: _, [], _, _, h => h
  | _ :: vs, _ :: ps, S, _, h => mem_psh (vs := vs) (ps := ps) (List.mem_cons_of_mem _ h)
theorem RO.unpsh {vs : List V} {ps : List PV} (r : RO G w ρ σ (psh vs ps S) H) : RO G w ρ σ S H := ⟨r.len, r.slot, r.stk.psh, r.own, r.frame, r.avs, fun v j m => r.als v j (mem_psh m)⟩
theorem R.unpsh {vs : List V} {ps : List PV} (r : R G ρ σ (psh vs ps S) H) : R G ρ σ S H := let ⟨w, r⟩ := r; ⟨w, r.unpsh⟩
theorem RO.rks : ∀ {vs : List V} {ps : List PV} {S : Stk} {ts : List T}, RO G w ρ σ (psh vs ps S) H → vs.length = ps.length → vals ρ ps = some ts → Rks (G.av w) H vs ts
  | [], [], _, _, _, _, e => by cases e; exact .nil
  | [], _ :: _, _, _, _, l, _ => by cases l
  | _ :: _, [], _, _, _, l, _ => by cases l
  | v :: vs, p :: ps, S, ts, r, l, e => by
    unfold vals at e
    split at e
    · next t us e1 e2 =>
      cases e
      have z : StkAt G w σ H ((v, p) :: S) := StkAt.psh (vs := vs) (ps := ps) r.stk
      exact .cons (r.rk z.1 e1) (RO.rks (vs := vs) (ps := ps) r (by simpa using l) e2)
    · cases e
/-- what is held is named otherwise -/
theorem RO.relabel {A : Stk} (r : RO G w ρ σ (A ++ (v, p) :: S) H) (h : PvAt G w (.pn S.length) σ H v (.sh t)) : R G ρ σ (A ++ (v, .sh t) :: S) H :=
  ⟨w, r.len, r.slot, r.stk.repl (fun _ _ _ _ z => z) h, r.own, r.frame, r.avs, fun u j m => r.als u j (by
    rw [List.mem_append, List.mem_cons] at m ⊢
    rcases m with m | m | m
    · exact .inl m
    · cases m
    · exact .inr (.inr m))⟩
theorem R.frzAt {A : Stk} (r : R G ρ σ (A ++ (v, p) :: S) H) (e : frz ρ p = some (t, ρ')) : R G ρ' σ (A ++ (v, .sh t) :: S) H := by
  cases p with
  | sh u => cases e; exact r
  | fz u => cases e; obtain ⟨w, r⟩ := r; exact RO.relabel r r.stk.get
  | io u => cases e
  | ow u =>
    dsimp only [frz] at e
    split at e
    · next h => cases e; exact r.thawAt (T.tree_of h)
    · cases e
  | cx a d C fs => cases e
  | al j =>
    dsimp only [frz] at e
    split at e
    · next u q =>
      cases e
      obtain ⟨w, r⟩ := r
      have z := r.stk.get
      obtain ⟨x, hx, z'⟩ := r.at_slot q
      rw [show σ[j]? = some (some v) from z] at hx; cases hx
      exact RO.relabel r (by exact z')
    · next u q =>
      split at e
      · next h =>
        cases e
        obtain ⟨w, r⟩ := R.thawSlot r q (T.tree_of h)
        have z := r.stk.get
        have hl : j < ρ.length := by
          false_or_by_contra
          rw [List.getElem?_eq_none (by omega)] at q; cases q
        obtain ⟨x, hx, z'⟩ := r.at_slot (List.getElem?_set_self hl)
        rw [show σ[j]? = some (some v) from z] at hx; cases hx
        exact RO.relabel r (by exact z')
      · cases e
    · cases e
theorem R.frz (r : R G ρ σ ((v, p) :: S) H) (e : frz ρ p = some (t, ρ')) : R G ρ' σ ((v, .sh t) :: S) H := R.frzAt (A := []) r e
theorem psh_at : ∀ (vs : List V) (ps : List PV) (S : Stk), ∃ A, ∀ S', psh vs ps S' = A ++ S'
  | [], _, _ => ⟨[], fun _ => by cases ‹List PV› <;> rfl⟩
  | _ :: _, [], _ => ⟨[], fun _ => rfl⟩
  | v :: vs, p :: ps, S => by
    obtain ⟨A, h⟩ := psh_at vs ps S
    exact ⟨A ++ [(v, p)], fun S' => by show psh vs ps ((v, p) :: S') = _; rw [h]; simp⟩
/-- arguments are let go -/
theorem R.frzs : ∀ {ps : List PV} {vs : List V} {S : Stk} {ts : List T} {ρ ρ' : Env}, R G ρ σ (psh vs ps S) H → vs.length = ps.length → frzs ρ ps = some (ts, ρ') → R G ρ' σ (psh vs (ts.map PV.sh) S) H ∧ vs.length = ts.length
  | [], [], _, _, _, _, r, _, e => by cases e; exact ⟨r, rfl⟩
  | [], _ :: _, _, _, _, _, _, l, _ => by cases l
  | _ :: _, [], _, _, _, _, _, l, _ => by cases l
  | p :: ps, v :: vs, S, ts, ρ, ρ', r, l, e => by
    dsimp only [LP.frzs] at e
    split at e
    · next t ρ1 e1 =>
      split at e
      · next us ρ2 e2 =>
        cases e
        obtain ⟨A, hA⟩ := psh_at vs ps S
        have r1 : R G ρ1 σ (psh vs ps ((v, .sh t) :: S)) H := by
          have r' : R G ρ σ (psh vs ps ((v, p) :: S)) H := r
          rw [hA] at r' ⊢
          exact r'.frzAt e1
        obtain ⟨z, hl⟩ := R.frzs (ps := ps) (vs := vs) r1 (by simpa using l) e2
        exact ⟨z, by simpa using hl⟩
      · cases e
    · cases e
theorem RO.dns : ∀ {vs : List V} {ts : List T} {S : Stk}, RO G w ρ σ (psh vs (ts.map PV.sh) S) H → vs.length = ts.length → Dns (G.av w) H vs ts
  | [], [], _, _, _ => .nil
  | [], _ :: _, _, _, l => by cases l
  | _ :: _, [], _, _, l => by cases l
  | v :: vs, t :: ts, S, r, l => by
    have z : StkAt G w σ H ((v, .sh t) :: S) := StkAt.psh (vs := vs) (ps := ts.map PV.sh) r.stk
    exact .cons z.1 (RO.dns (vs := vs) (ts := ts) r (by simpa using l))
theorem R.stv {q : PV} (r : R G ρ σ ((v, p) :: S) H) (e : stv ρ p = some (q, ρ')) : R G ρ' σ ((v, q) :: S) H ∧ ∀ j, q ≠ .al j := by
  cases p with
  | sh u => cases e; exact ⟨r, fun j z => by cases z⟩
  | fz u => cases e; exact ⟨R.frz (p := .fz u) r rfl, fun j z => by cases z⟩
  | io u => cases e
  | ow u => cases e; exact ⟨r, fun j z => by cases z⟩
  | cx a d C fs => cases e; exact ⟨r, fun j z => by cases z⟩
  | al j =>
    have : ∃ t, q = .sh t ∧ LP.frz ρ (.al j) = some (t, ρ') := by
      dsimp only [LP.stv] at e
      dsimp only [LP.frz]
      split at e
      · next u h => cases e; exact ⟨_, rfl, rfl⟩
      · next u h =>
        split at e
        · next h2 => cases e; exact ⟨_, rfl, if_pos h2⟩
        · cases e
      · cases e
    obtain ⟨t, rfl, e2⟩ := this
    exact ⟨r.frz e2, fun j z => by cases z⟩
end
end LP
end
section
set_option maxRecDepth 100000
set_option maxHeartbeats 4000000
namespace LP
open PySem L2 LH
/-! ### readings over trees, and that they are sound -/
abbrev LE := Env → (PV → Env → Prop) → Prop
abbrev LT := Env → (Bool → Env → Prop) → Prop
abbrev LA := Env → (List PV → Env → Prop) → Prop
def Snd (G : Gh) (te : TE) (le : LE) : Prop := ∀ (ρ : Env) (σ : St) (S : Stk) (H : Hp) (Q : VK) (P : PV → Env → Prop), R G ρ σ S H → le ρ P → (∀ p ρ' v H', P p ρ' → R G ρ' σ ((v, p) :: S) H' → Q v H') → te σ H Q
def SndT (G : Gh) (tt : TT) (lt : LT) : Prop := ∀ (ρ : Env) (σ : St) (S : Stk) (H : Hp) (Q : Bool → Hp → Prop) (P : Bool → Env → Prop), R G ρ σ S H → lt ρ P → (∀ b ρ' H', P b ρ' → R G ρ' σ S H' → Q b H') → tt σ H Q
def SndA (G : Gh) (ta : TA) (la : LA) : Prop := ∀ (ρ : Env) (σ : St) (S : Stk) (H : Hp) (Q : List V → Hp → Prop) (P : List PV → Env → Prop), R G ρ σ S H → la ρ P → (∀ ps ρ' vs H', P ps ρ' → vs.length = ps.length → R G ρ' σ (psh vs ps S) H' → Q vs H') → ta σ H Q
/-- by values: av is what is to be avoided -/
def OpS (r : R2) (lr : T → T → (PV → Prop) → Prop) : Prop := ∀ (av : Addr → Prop) (H : Hp) (x y : V) (s t : T) (Q : VK) (P : PV → Prop), (∀ a, av a → Liv H a) → Rk av H x s → Rk av H y t → lr s t P → (∀ p v H', P p → Nw av H H' v p → Q v H') → r x y H Q
def UnS (r : V → Hp → VK → Prop) (lr : T → (PV → Prop) → Prop) : Prop := ∀ (av : Addr → Prop) (H : Hp) (x : V) (s : T) (Q : VK) (P : PV → Prop), (∀ a, av a → Liv H a) → Rk av H x s → lr s P → (∀ p v H', P p → Nw av H H' v p → Q v H') → r x H Q
def CallS (r : List V → Hp → VK → Prop) (lr : List T → (PV → Prop) → Prop) : Prop := ∀ (av : Addr → Prop) (H : Hp) (xs : List V) (ts : List T) (Q : VK) (P : PV → Prop), (∀ a, av a → Liv H a) → Rks av H xs ts → lr ts P → (∀ p v H', P p → Nw av H H' v p → Q v H') → r xs H Q
section
variable {G : Gh} {w : Addr → Option Loc} {ρ : Env} {σ : St} {S : Stk} {H : Hp}
theorem RO.live (r : RO G w ρ σ S H) (a : Addr) (z : G.av w a) : Liv H a := by
  rcases z with z | ⟨l, z⟩
  · obtain ⟨n, h⟩ := r.avs a z
    exact h.same fun o => r.frame a o n
  · exact (r.own a l z).2.2
end
section
variable {ta tb tc te : TE} {la lb lc le : LE} {K : PySem.W.Frag}
/-! names, constants -/
def rdv (i : Nat) : Option (Option PV) → Option PV
  | some (some (.sh t)) => some (.sh t)
  | some (some (.ow _)) => some (.al i)
  | some (some (.fz t)) => some (.sh t)
  | some (some (.io _)) => some (.al i)
  | some (some (.cx a d C fs)) => some (.cx a d C fs)
  | _ => none
def lVar (i : Nat) : LE := fun ρ Q => ∃ p, rdv i (ρ[i]?) = some p ∧ Q p ρ
theorem sn_var {i : Nat} : Snd G (tVar i) (lVar i) := by
  rintro ρ σ S H Q P ⟨w, r⟩ ⟨p, e, q⟩ k
  unfold rdv at e
  split at e
  · next t h =>
    cases e
    obtain ⟨v, hv, z⟩ := r.at_slot h
    exact ⟨v, hv, k _ _ v H q ⟨w, r.push z⟩⟩
  · next t h =>
    cases e
    obtain ⟨v, hv, z⟩ := r.at_slot h
    exact ⟨v, hv, k _ _ v H q ⟨w, r.push hv fun j e => by cases e; exact ⟨_, .inl h⟩⟩⟩
  · next t h =>
    cases e
    obtain ⟨v, hv, z⟩ := r.at_slot h
    exact ⟨v, hv, k _ _ v H q ⟨w, r.push (p := .sh t) z⟩⟩
  · next t h =>
    cases e
    obtain ⟨v, hv, z⟩ := r.at_slot h
    exact ⟨v, hv, k _ _ v H q ⟨w, r.push hv fun j e => by cases e; exact ⟨_, .inr (.inr h)⟩⟩⟩
  · next a d C fs h =>
    cases e
    obtain ⟨v, hv, z⟩ := r.at_slot h
    exact ⟨v, hv, k _ _ v H q ⟨w, r.push (p := .cx a d C fs) z⟩⟩
  · cases e
def lC (t : T) : LE := fun ρ Q => Q (.sh t) ρ
theorem sn_c {v : V} {t : T} (h : ∀ av H, Dn av H v t) : Snd G (tC v) (lC t) := fun ρ σ S H Q P r q k => k _ _ v H q (r.leaf h)
theorem sn_int {i : Int} : Snd G (tC (.int i)) (lC (.int i)) := sn_c fun _ _ => .int i
theorem sn_str {z : Str} : Snd G (tC (.str z)) (lC (.str z)) := sn_c fun _ _ => .str z
theorem sn_bl {b : Bool} : Snd G (tC (.bl b)) (lC (.bl b)) := sn_c fun _ _ => .bl b
theorem sn_non : Snd G (tC .non) (lC .non) := sn_c fun _ _ => .non
theorem sn_cls {a : Addr} : Snd G (tC (.ref a)) (lC (.cls a)) := sn_c fun _ _ => .cls a
theorem sn_ty {n : String} : Snd G (tC (.ty n)) (lC (.ty n)) := sn_c fun _ _ => .ty n
/-! operators -/
def lOp (lr : T → T → (PV → Prop) → Prop) (la lb : LE) : LE := fun ρ Q => la ρ fun p ρ1 => lb ρ1 fun q ρ2 => ∃ s t, val ρ2 p = some s ∧ val ρ2 q = some t ∧ lr s t fun r => Q r ρ2
theorem sn_op {r : R2} {lr : T → T → (PV → Prop) → Prop} (ho : OpS r lr) (ha : Snd G ta la) (hb : Snd G tb lb) : Snd G (tOp r ta tb) (lOp lr la lb) := by
  intro ρ σ S H Q P R0 h k
  refine ha ρ σ S H _ _ R0 h fun p ρ1 x H1 h1 R1 => ?_
  refine hb ρ1 σ _ H1 _ _ R1 h1 fun q ρ2 y H2 h2 R2 => ?_
  obtain ⟨s, t, e1, e2, h2⟩ := h2
  obtain ⟨w, R2⟩ := R2
  exact ho (G.av w) H2 x y s t Q _ R2.live (R2.rk R2.stk.2.1 e1) (R2.rk R2.stk.1 e2) h2 fun u v H3 h3 n => k _ _ _ _ h3 (R2.pop.pop.res n)
def lUn (lr : T → (PV → Prop) → Prop) (la : LE) : LE := fun ρ Q => la ρ fun p ρ1 => ∃ s, val ρ1 p = some s ∧ lr s fun r => Q r ρ1
theorem sn_un {r : V → Hp → VK → Prop} {lr : T → (PV → Prop) → Prop} (ho : UnS r lr) (ha : Snd G ta la) : Snd G (tUn r ta) (lUn lr la) := by
  intro ρ σ S H Q P R0 h k
  refine ha ρ σ S H _ _ R0 h fun p ρ1 x H1 h1 R1 => ?_
  obtain ⟨s, e1, h2⟩ := h1
  obtain ⟨w, R1⟩ := R1
  exact ho (G.av w) H1 x s Q _ R1.live (R1.rk R1.stk.1 e1) h2 fun u v H3 h3 n => k _ _ _ _ h3 (R1.pop.res n)
/-! arguments, built-ins -/
def lNil : LA := fun ρ Q => Q [] ρ
theorem sn_nil : SndA G tNil lNil := fun ρ σ S H Q P R0 h k => k [] ρ [] H h rfl R0
def lCons (la : LE) (lr : LA) : LA := fun ρ Q => la ρ fun p ρ1 => lr ρ1 fun ps ρ2 => Q (p :: ps) ρ2
theorem sn_cons {tr : TA} {lr : LA} (ha : Snd G ta la) (hr : SndA G tr lr) : SndA G (tCons ta tr) (lCons la lr) := by
  intro ρ σ S H Q P R0 h k
  refine ha ρ σ S H _ _ R0 h fun p ρ1 x H1 h1 R1 => ?_
  exact hr ρ1 σ _ H1 _ _ R1 h1 fun ps ρ2 vs H2 h2 l R2 => k (p :: ps) ρ2 (x :: vs) H2 h2 (by simp [l]) R2
def lCB (lr : List T → (PV → Prop) → Prop) (l : LA) : LE := fun ρ Q => l ρ fun ps ρ1 => ∃ ts, vals ρ1 ps = some ts ∧ lr ts fun r => Q r ρ1
theorem sn_cb {r : List V → Hp → VK → Prop} {lr : List T → (PV → Prop) → Prop} {t : TA} {l : LA} (ho : CallS r lr) (ha : SndA G t l) : Snd G (tCB r t) (lCB lr l) := by
  intro ρ σ S H Q P R0 h k
  refine ha ρ σ S H _ _ R0 h fun ps ρ1 vs H1 h1 hl R1 => ?_
  obtain ⟨ts, e1, h2⟩ := h1
  obtain ⟨w, R1⟩ := R1
  exact ho (G.av w) H1 vs ts Q _ R1.live (R1.rks hl e1) h2 fun u v H3 h3 n => k _ _ _ _ h3 (R1.unpsh.res n)
/-! lists, tuples -/
def lLst (l : LA) : LE := fun ρ Q => l ρ fun ps ρ1 => ∃ ts ρ2, frzs ρ1 ps = some (ts, ρ2) ∧ ts.length ≤ 1000 ∧ Q (.ow (.lst ts)) ρ2
theorem sn_lst {t : TA} {l : LA} (ha : SndA G t l) : Snd G (tLst t) (lLst l) := by
  intro ρ σ S H Q P R0 h k
  refine ha ρ σ S H _ _ R0 h fun ps ρ1 vs H1 h1 hl R1 => ?_
  obtain ⟨ts, ρ2, e1, h2, h3⟩ := h1
  obtain ⟨⟨w, R2⟩, hl2⟩ := R.frzs R1 hl e1
  exact ⟨by rw [hl2]; exact Nat.le_of_lt (small1000 h2), fun p hp => k _ _ _ _ h3 (R2.unpsh.res (Nw.lst hp (R2.dns hl2)))⟩
def lTup (l : LA) : LE := fun ρ Q => l ρ fun ps ρ1 => ∃ ts ρ2, frzs ρ1 ps = some (ts, ρ2) ∧ ts.length ≤ 1000 ∧ Q (.sh (.tup ts)) ρ2
theorem sn_tup {t : TA} {l : LA} (ha : SndA G t l) : Snd G (tTup t) (lTup l) := by
  intro ρ σ S H Q P R0 h k
  refine ha ρ σ S H _ _ R0 h fun ps ρ1 vs H1 h1 hl R1 => ?_
  obtain ⟨ts, ρ2, e1, h2, h3⟩ := h1
  obtain ⟨⟨w, R2⟩, hl2⟩ := R.frzs R1 hl e1
  refine ⟨by rw [hl2]; exact Nat.le_of_lt (small1000 h2), fun p hp => k _ _ _ _ h3 (R2.unpsh.res (Nw.tup hp (fun z => ?_) (R2.dns hl2)))⟩
  obtain ⟨o, e, _⟩ := R2.live p z
  rw [hp] at e; cases e
/-! truth -/
def lTest (le : LE) : LT := fun ρ Q => le ρ fun p ρ1 => ∃ b, p = .sh (.bl b) ∧ Q b ρ1
theorem sn_test (h : Snd G te le) : SndT G (tTest te) (lTest le) := by
  intro ρ σ S H Q P R0 q k
  refine h ρ σ S H _ _ R0 q fun p ρ1 x H1 h1 R1 => ?_
  obtain ⟨b, rfl, h2⟩ := h1
  obtain ⟨w, R1⟩ := R1
  have z : Dn (G.av w) H1 x (.bl b) := R1.top
  cases z
  exact ⟨b, rfl, k _ _ _ h2 ⟨w, R1.pop⟩⟩
theorem sn_tb (h : Snd G te le) : SndT G (tB te) (lTest le) := sn_test h
/-- truth of a tree -/
def truT : T → Option Bool
  | .non => some false
  | .bl b => some b
  | .int i => some (i != 0)
  | .str z => some ((z.length : Int) != 0)
  | .lst xs => some (!xs.isEmpty)
  | .tup xs => some (!xs.isEmpty)
  | _ => none
def lTru (le : LE) : LT := fun ρ Q => le ρ fun p ρ1 => ∃ t b, val ρ1 p = some t ∧ truT t = some b ∧ (∀ z, t = .str z → z.length ≤ 16777216) ∧ Q b ρ1
theorem Dns.isEmpty {av : Addr → Prop} {H : Hp} {vs : List V} {ts : List T} (d : Dns av H vs ts) : vs.isEmpty = ts.isEmpty := by cases d <;> rfl
theorem isEmpty_map {α β : Type} (f : α → β) (l : List α) : (l.map f).isEmpty = l.isEmpty := by cases l <;> rfl
theorem tru_of {av : Addr → Prop} {H : Hp} {x : V} {t : T} {b : Bool} (h : Rk av H x t) (e : truT t = some b) (l : ∀ z, t = .str z → z.length ≤ 16777216) : TruV K x H b := by
  cases t with
  | non => cases h.non; cases e; rfl
  | bl c => cases h.bl; cases e; rfl
  | int i => cases h.int; cases e; rfl
  | str z => cases h.str; cases e; exact ⟨by rw [sizeLine_eq]; exact l z rfl, rfl⟩
  | lst ts => obtain ⟨a, vs, rfl, e1, d⟩ := h.lst; cases e; exact .inl ⟨vs, SqL.of e1, by rw [d.isEmpty]⟩
  | tup ts => obtain ⟨a, vs, rfl, e1, d⟩ := h.tup; cases e; exact .inr (.inl ⟨vs, SqT.of e1, by rw [d.isEmpty]⟩)
  | _ => cases e
theorem sn_tru (h : Snd G te le) : SndT G (fun σ H Q => te σ H fun x H' => ∃ k, TruV K x H' k ∧ Q k H') (lTru le) := by
  intro ρ σ S H Q P R0 q k
  refine h ρ σ S H _ _ R0 q fun p ρ1 x H1 h1 R1 => ?_
  obtain ⟨t, b, e1, e2, l, h2⟩ := h1
  obtain ⟨w, R1⟩ := R1
  exact ⟨b, tru_of (R1.rk R1.top e1) e2 l, k _ _ _ h2 ⟨w, R1.pop⟩⟩
def lAnd (l m : LT) : LT := fun ρ Q => l ρ fun c ρ1 => if c = true then m ρ1 Q else Q false ρ1
def lOr (l m : LT) : LT := fun ρ Q => l ρ fun c ρ1 => if c = true then Q true ρ1 else m ρ1 Q
def lNot (l : LT) : LT := fun ρ Q => l ρ fun c ρ1 => Q (!c) ρ1
section
variable {t u : TT} {l m : LT}
theorem sn_and (h1 : SndT G t l) (h2 : SndT G u m) : SndT G (tAnd t u) (lAnd l m) := by
  intro ρ σ S H Q P R0 q k
  refine h1 ρ σ S H _ _ R0 q fun b ρ1 H1 q1 R1 => ?_
  cases b with
  | true => exact h2 ρ1 σ S H1 _ _ R1 q1 k
  | false => exact k _ _ _ q1 R1
theorem sn_or (h1 : SndT G t l) (h2 : SndT G u m) : SndT G (tOr t u) (lOr l m) := by
  intro ρ σ S H Q P R0 q k
  refine h1 ρ σ S H _ _ R0 q fun b ρ1 H1 q1 R1 => ?_
  cases b with
  | false => exact h2 ρ1 σ S H1 _ _ R1 q1 k
  | true => exact k _ _ _ q1 R1
theorem sn_not (h1 : SndT G t l) : SndT G (tNot t) (lNot l) := by
  intro ρ σ S H Q P R0 q k
  exact h1 ρ σ S H _ _ R0 q fun b ρ1 H1 q1 R1 => k _ _ _ q1 R1
end
def lYes : LT := fun ρ Q => Q true ρ
theorem sn_yes : SndT G tYes lYes := fun ρ σ S H Q P R0 q k => k _ _ _ q R0
/-! .. as values -/
def lAndV (la lb : LE) : LE := fun ρ Q => la ρ fun p ρ1 => ∃ c, p = .sh (.bl c) ∧ if c = true then lb ρ1 Q else Q (.sh (.bl false)) ρ1
def lOrV (la lb : LE) : LE := fun ρ Q => la ρ fun p ρ1 => ∃ c, p = .sh (.bl c) ∧ if c = true then Q (.sh (.bl true)) ρ1 else lb ρ1 Q
def lNotV (la : LE) : LE := fun ρ Q => la ρ fun p ρ1 => ∃ c, p = .sh (.bl c) ∧ Q (.sh (.bl (!c))) ρ1
theorem R.bl {G : Gh} {ρ : Env} {σ : St} {S : Stk} {H : Hp} {x : V} {b : Bool} (r : R G ρ σ ((x, .sh (.bl b)) :: S) H) : x = .bl b := by
  obtain ⟨w, r⟩ := r
  have z : Dn (G.av w) H x (.bl b) := r.top
  cases z
  rfl
theorem sn_andV (ha : Snd G ta la) (hb : Snd G tb lb) : Snd G (tAndV ta tb) (lAndV la lb) := by
  intro ρ σ S H Q P R0 q k
  refine ha ρ σ S H _ _ R0 q fun p ρ1 x H1 h1 R1 => ?_
  obtain ⟨c, rfl, h1⟩ := h1
  obtain rfl := R1.bl
  refine ⟨c, rfl, ?_⟩
  cases c with
  | true => exact hb ρ1 σ S H1 _ _ R1.pop h1 k
  | false => exact k _ _ _ _ h1 (R1.pop.leaf fun _ _ => .bl false)
theorem sn_orV (ha : Snd G ta la) (hb : Snd G tb lb) : Snd G (tOrV ta tb) (lOrV la lb) := by
  intro ρ σ S H Q P R0 q k
  refine ha ρ σ S H _ _ R0 q fun p ρ1 x H1 h1 R1 => ?_
  obtain ⟨c, rfl, h1⟩ := h1
  obtain rfl := R1.bl
  refine ⟨c, rfl, ?_⟩
  cases c with
  | false => exact hb ρ1 σ S H1 _ _ R1.pop h1 k
  | true => exact k _ _ _ _ h1 (R1.pop.leaf fun _ _ => .bl true)
theorem sn_notV (ha : Snd G ta la) : Snd G (tNotV ta) (lNotV la) := by
  intro ρ σ S H Q P R0 q k
  refine ha ρ σ S H _ _ R0 q fun p ρ1 x H1 h1 R1 => ?_
  obtain ⟨c, rfl, h1⟩ := h1
  obtain rfl := R1.bl
  exact ⟨c, rfl, k _ _ _ _ h1 (R1.pop.leaf fun _ _ => .bl _)⟩
def lIf (l : LT) (la lb : LE) : LE := fun ρ Q => l ρ fun c ρ1 => if c = true then la ρ1 Q else lb ρ1 Q
theorem sn_if {t : TT} {l : LT} (h1 : SndT G t l) (ha : Snd G ta la) (hb : Snd G tb lb) : Snd G (tIf t ta tb) (lIf l la lb) := by
  intro ρ σ S H Q P R0 q k
  refine h1 ρ σ S H _ _ R0 q fun b ρ1 H1 q1 R1 => ?_
  cases b with
  | true => exact ha ρ1 σ S H1 _ _ R1 q1 k
  | false => exact hb ρ1 σ S H1 _ _ R1 q1 k
def lChain (lr lr' : T → T → (PV → Prop) → Prop) (la lb lc : LE) : LE := fun ρ Q => la ρ fun p ρ1 => lb ρ1 fun q ρ2 => ∃ s t, val ρ2 p = some s ∧ val ρ2 q = some t ∧ lr s t fun r => ∃ c, r = .sh (.bl c) ∧ if c = true then lc ρ2 fun u ρ3 => ∃ t' s', val ρ3 q = some t' ∧ val ρ3 u = some s' ∧ lr' t' s' fun r' => Q r' ρ3 else Q (.sh (.bl false)) ρ2
theorem sn_chain {r r' : R2} {lr lr' : T → T → (PV → Prop) → Prop} (ho : OpS r lr) (ho' : OpS r' lr') (ha : Snd G ta la) (hb : Snd G tb lb) (hc : Snd G tc lc) : Snd G (tChain r r' ta tb tc) (lChain lr lr' la lb lc) := by
  intro ρ σ S H Q P R0 h k
  refine ha ρ σ S H _ _ R0 h fun p ρ1 x H1 h1 R1 => ?_
  refine hb ρ1 σ _ H1 _ _ R1 h1 fun q ρ2 y H2 h2 R2 => ?_
  obtain ⟨s, t, e1, e2, h2⟩ := h2
  obtain ⟨w, R2⟩ := R2
  refine ho (G.av w) H2 x y s t _ _ R2.live (R2.rk R2.stk.2.1 e1) (R2.rk R2.stk.1 e2) h2 fun u v H3 h3 n => ?_
  obtain ⟨c, rfl, h3⟩ := h3
  obtain ⟨sm, d⟩ := n
  cases d
  refine ⟨c, rfl, ?_⟩
  have R3 := R2.same sm
  cases c with
  | false => exact k _ _ _ _ h3 (R.leaf ⟨w, R3.pop.pop⟩ fun _ _ => .bl false)
  | true =>
    refine hc ρ2 σ _ H3 _ _ ⟨w, R3⟩ h3 fun u ρ3 z H4 h4 R4 => ?_
    obtain ⟨t', s', e3, e4, h4⟩ := h4
    obtain ⟨w', R4⟩ := R4
    exact ho' (G.av w') H4 y z t' s' Q _ R4.live (R4.rk R4.stk.2.1 e3) (R4.rk R4.stk.1 e4) h4 fun u v H5 h5 n => k _ _ _ _ h5 (R4.pop.pop.pop.res n)
end
end LP
end
section
set_option maxRecDepth 100000
set_option maxHeartbeats 4000000
namespace LP
open PySem L2 LH
/-! ### lookups -/
section
variable {κ : Type} [DecidableEq κ]
def valT (kt : List (κ × T)) (k : κ) : Option T := (kt.find? fun kv => decide (kv.1 = k)).map (·.2)
def putT (kt : List (κ × T)) (k : κ) (t : T) : List (κ × T) := if (kt.any fun kv => decide (kv.1 = k)) = true then kt.map (fun kv => if kv.1 = k then (kv.1, t) else kv) else kt ++ [(k, t)]
theorem val_dns {av : Addr → Prop} {H : Hp} {k : κ} : ∀ {ks : List (κ × V)} {kt : List (κ × T)}, ks.map Prod.fst = kt.map Prod.fst → Dns av H (ks.map Prod.snd) (kt.map Prod.snd) →
    (∃ v t, valV ks k = some v ∧ valT kt k = some t ∧ Dn av H v t) ∨ (valV ks k = none ∧ valT kt k = none)
  | [], [], _, _ => .inr ⟨rfl, rfl⟩
  | [], _ :: _, e, _ => by cases e
  | _ :: _, [], e, _ => by cases e
  | (k1, v) :: ks, (k2, t) :: kt, e, d => by
    rw [List.map_cons, List.map_cons] at e d
    injection e with e1 e2
    have e1' : k1 = k2 := e1
    subst e1'
    cases d with
    | cons d ds =>
      by_cases c : k1 = k
      · refine .inl ⟨v, t, ?_, ?_, d⟩ <;> simp [valV, valT, c]
      · have z := val_dns (k := k) e2 ds
        simpa [valV, valT, List.find?_cons, c] using z
theorem put_fst {ks : List (κ × V)} {kt : List (κ × T)} {k : κ} {v : V} {t : T} (e : ks.map Prod.fst = kt.map Prod.fst) : (putK ks k v).map Prod.fst = (putT kt k t).map Prod.fst := by
  have an : (ks.any fun kv => decide (kv.1 = k)) = (kt.any fun kv => decide (kv.1 = k)) := by
    have h1 : (ks.any fun kv => decide (kv.1 = k)) = (ks.map Prod.fst).any fun x => decide (x = k) := by rw [List.any_map]; rfl
    have h2 : (kt.any fun kv => decide (kv.1 = k)) = (kt.map Prod.fst).any fun x => decide (x = k) := by rw [List.any_map]; rfl
    rw [h1, h2, e]
  unfold putK putT
  rw [an]
  split
  · rw [List.map_map, List.map_map]
    have f1 : (Prod.fst ∘ fun kv : κ × V => if kv.1 = k then (kv.1, v) else kv) = Prod.fst := by funext x; show (if x.1 = k then (x.1, v) else x).1 = x.1; split <;> rfl
    have f2 : (Prod.fst ∘ fun kv : κ × T => if kv.1 = k then (kv.1, t) else kv) = Prod.fst := by funext x; show (if x.1 = k then (x.1, t) else x).1 = x.1; split <;> rfl
    rw [f1, f2, e]
  · rw [List.map_append, List.map_append, e]; rfl
theorem put_map {av : Addr → Prop} {H : Hp} {k : κ} {v : V} {t : T} (h : Dn av H v t) : ∀ {ks : List (κ × V)} {kt : List (κ × T)}, ks.map Prod.fst = kt.map Prod.fst → Dns av H (ks.map Prod.snd) (kt.map Prod.snd) →
    Dns av H ((ks.map (fun kv => if kv.1 = k then (kv.1, v) else kv)).map Prod.snd) ((kt.map (fun kv => if kv.1 = k then (kv.1, t) else kv)).map Prod.snd)
  | [], [], _, _ => .nil
  | [], _ :: _, e, _ => by cases e
  | _ :: _, [], e, _ => by cases e
  | (k1, x) :: ks, (k2, u) :: kt, e, d => by
    rw [List.map_cons, List.map_cons] at e d
    injection e with e1 e2
    have e1' : k1 = k2 := e1
    subst e1'
    cases d with
    | cons d ds =>
      have z := put_map (k := k) h e2 ds
      by_cases c : k1 = k
      · simp only [List.map_cons, if_pos c]; exact .cons h z
      · simp only [List.map_cons, if_neg c]; exact .cons d z
theorem put_dns {av : Addr → Prop} {H : Hp} {k : κ} {v : V} {t : T} (h : Dn av H v t) {ks : List (κ × V)} {kt : List (κ × T)} (e : ks.map Prod.fst = kt.map Prod.fst) (d : Dns av H (ks.map Prod.snd) (kt.map Prod.snd)) :
    Dns av H ((putK ks k v).map Prod.snd) ((putT kt k t).map Prod.snd) := by
  have an : (ks.any fun kv => decide (kv.1 = k)) = (kt.any fun kv => decide (kv.1 = k)) := by
    have h1 : (ks.any fun kv => decide (kv.1 = k)) = (ks.map Prod.fst).any fun x => decide (x = k) := by rw [List.any_map]; rfl
    have h2 : (kt.any fun kv => decide (kv.1 = k)) = (kt.map Prod.fst).any fun x => decide (x = k) := by rw [List.any_map]; rfl
    rw [h1, h2, e]
  unfold putK putT
  rw [an]
  split
  · exact put_map h e d
  · rw [List.map_append, List.map_append]; exact d.app (.cons h .nil)
end
def tkey : T → Option Key
  | .int i => some (.inl i)
  | .str z => some (.inr z)
  | _ => none
def tkeys : List T → Option (List Key)
  | [] => some []
  | t :: ts => match tkey t, tkeys ts with
    | some k, some ks => some (k :: ks)
    | _, _ => none
theorem key_of {av : Addr → Prop} {H : Hp} {x : V} {t : T} {k : Key} (h : Rk av H x t) (e : tkey t = some k) : x = kV k := by
  cases t with
  | int i => cases h.int; cases e; rfl
  | str z => cases h.str; cases e; rfl
  | _ => cases e
theorem keys_of {av : Addr → Prop} {H : Hp} : ∀ {xs : List V} {ts : List T} {ks : List Key}, Dns av H xs ts → tkeys ts = some ks → xs = ks.map kV
  | _, _, _, .nil, e => by cases e; rfl
  | _, _, _, .cons (t := t) (ts := ts) d ds, e => by
    unfold tkeys at e
    cases h1 : tkey t with
    | none => rw [h1] at e; cases e
    | some k =>
      cases h2 : tkeys ts with
      | none => rw [h1, h2] at e; cases e
      | some us =>
        rw [h1, h2] at e
        cases e
        rw [List.map_cons, key_of (.inl d) h1, keys_of ds h2]
/-- what a dict has by a key -/
def dgetT : T → T → Option (Option T)
  | .dic kt, y => match tkey y with
    | some k => some (valT kt k)
    | none => none
  | .dit kt, .tup ts => match tkeys ts with
    | some k => some (valT kt k)
    | none => none
  | _, _ => none
theorem dget_of {av : Addr → Prop} {H : Hp} {x y : V} {s u : T} {r : Option T} (hx : Rk av H x s) (hy : Rk av H y u) (e : dgetT s u = some r) :
    ∃ a ov, x = .ref a ∧ DGet H a y ov ∧ ((∃ v t, ov = some v ∧ r = some t ∧ Dn av H v t) ∨ (ov = none ∧ r = none)) := by
  cases s with
  | dic kt =>
    obtain ⟨a, ks, rfl, e1, k1, d⟩ := hx.dic
    cases h1 : tkey u with
    | none => simp only [dgetT, h1] at e; cases e
    | some k =>
      simp only [dgetT, h1] at e
      cases e
      obtain rfl := key_of hy h1
      refine ⟨a, _, rfl, .inl ⟨ks, k, e1, rfl, rfl⟩, ?_⟩
      rcases val_dns (k := k) k1 d with ⟨v, t, h1, h2, h3⟩ | ⟨h1, h2⟩
      · exact .inl ⟨v, t, h1, h2, h3⟩
      · exact .inr ⟨h1, h2⟩
  | dit kt =>
    obtain ⟨a, ks, rfl, e1, k1, d⟩ := hx.dit
    cases u with
    | tup ts =>
      obtain ⟨b, vs, rfl, e2, d2⟩ := hy.tup
      cases h1 : tkeys ts with
      | none => simp only [dgetT, h1] at e; cases e
      | some k =>
        simp only [dgetT, h1] at e
        cases e
        obtain rfl := keys_of d2 h1
        refine ⟨a, _, rfl, DGet.t e1 e2, ?_⟩
        rcases val_dns (k := k) k1 d with ⟨v, t, h1, h2, h3⟩ | ⟨h1, h2⟩
        · exact .inl ⟨v, t, h1, h2, h3⟩
        · exact .inr ⟨h1, h2⟩
    | _ => cases e
  | _ => cases e
section
variable {ta tb tc te td ty tv : TE} {la lb lc le ld ly lv : LE} {K : PySem.W.Frag}
/-! dicts -/
def lDGet (ld ly : LE) : LE := fun ρ Q => ld ρ fun p ρ1 => ly ρ1 fun q ρ2 => ∃ s u t, val ρ2 p = some s ∧ val ρ2 q = some u ∧ dgetT s u = some (some t) ∧ Q (.sh t) ρ2
theorem sn_dget (hd : Snd G td ld) (hy : Snd G ty ly) : Snd G (tDGet td ty) (lDGet ld ly) := by
  intro ρ σ S H Q P R0 h k
  refine hd ρ σ S H _ _ R0 h fun p ρ1 x H1 h1 R1 => ?_
  refine hy ρ1 σ _ H1 _ _ R1 h1 fun q ρ2 y H2 h2 R2 => ?_
  obtain ⟨s, u, t, e1, e2, e3, h2⟩ := h2
  obtain ⟨w, R2⟩ := R2
  obtain ⟨a, ov, rfl, g, z⟩ := dget_of (R2.rk R2.stk.2.1 e1) (R2.rk R2.stk.1 e2) e3
  rcases z with ⟨v, t', rfl, e, d⟩ | ⟨_, e⟩
  · cases e
    exact ⟨a, v, rfl, g, k _ _ _ _ h2 (R2.pop.pop.res (Nw.here d))⟩
  · cases e
/-- .get(k), .get(k, d) -/
def lDGet1 (ld ly : LE) : LE := fun ρ Q => ld ρ fun p ρ1 => ly ρ1 fun q ρ2 => ∃ s u o, val ρ2 p = some s ∧ val ρ2 q = some u ∧ dgetT s u = some o ∧ Q (.sh (o.getD .non)) ρ2
theorem IsD_of {av : Addr → Prop} {H H' : Hp} {x : V} {s u : T} {r : Option T} (hx : Rk av H x s) (e : dgetT s u = some r) : ∃ a, x = .ref a ∧ IsD H a := by
  cases s with
  | dic kt => obtain ⟨a, ks, rfl, e1, _⟩ := hx.dic; exact ⟨a, rfl, .inl ⟨ks, e1⟩⟩
  | dit kt => obtain ⟨a, ks, rfl, e1, _⟩ := hx.dit; exact ⟨a, rfl, .inr ⟨ks, Rd.of e1⟩⟩
  | _ => cases e
def lDIn (neg : Bool) (ly ld : LE) : LE := fun ρ Q => ly ρ fun q ρ1 => ld ρ1 fun p ρ2 => ∃ s u o, val ρ2 p = some s ∧ val ρ2 q = some u ∧ dgetT s u = some o ∧ Q (.sh (.bl (if neg then !o.isSome else o.isSome))) ρ2
theorem sn_din (hy : Snd G ty ly) (hd : Snd G td ld) : Snd G (tDIn ty td) (lDIn false ly ld) := by
  intro ρ σ S H Q P R0 h k
  refine hy ρ σ S H _ _ R0 h fun q ρ1 y H1 h1 R1 => ?_
  refine hd ρ1 σ _ H1 _ _ R1 h1 fun p ρ2 x H2 h2 R2 => ?_
  obtain ⟨s, u, t, e1, e2, e3, h2⟩ := h2
  obtain ⟨w, R2⟩ := R2
  obtain ⟨a, ov, rfl, g, z⟩ := dget_of (R2.rk R2.stk.1 e1) (R2.rk R2.stk.2.1 e2) e3
  refine ⟨a, ov, rfl, g, ?_⟩
  have e : ov.isSome = t.isSome := by rcases z with ⟨v, t', rfl, rfl, _⟩ | ⟨rfl, rfl⟩ <;> rfl
  rw [e]
  exact k _ _ _ _ h2 (R.leaf ⟨w, R2.pop.pop⟩ fun _ _ => .bl _)
theorem sn_dnotin (hy : Snd G ty ly) (hd : Snd G td ld) : Snd G (tDNotIn ty td) (lDIn true ly ld) := by
  intro ρ σ S H Q P R0 h k
  refine hy ρ σ S H _ _ R0 h fun q ρ1 y H1 h1 R1 => ?_
  refine hd ρ1 σ _ H1 _ _ R1 h1 fun p ρ2 x H2 h2 R2 => ?_
  obtain ⟨s, u, t, e1, e2, e3, h2⟩ := h2
  obtain ⟨w, R2⟩ := R2
  obtain ⟨a, ov, rfl, g, z⟩ := dget_of (R2.rk R2.stk.1 e1) (R2.rk R2.stk.2.1 e2) e3
  refine ⟨a, ov, rfl, g, ?_⟩
  have e : ov.isSome = t.isSome := by rcases z with ⟨v, t', rfl, rfl, _⟩ | ⟨rfl, rfl⟩ <;> rfl
  rw [e]
  exact k _ _ _ _ h2 (R.leaf ⟨w, R2.pop.pop⟩ fun _ _ => .bl _)
def lDNew : LE := fun ρ Q => Q (.ow (.dic [])) ρ
theorem sn_dnewK : Snd G tDNewK lDNew := fun ρ σ S H Q P R0 h k p hp => by
  obtain ⟨w, R0⟩ := R0
  exact k _ _ _ _ h (R0.res (Nw.dic hp rfl .nil))
def lDNewT : LE := fun ρ Q => Q (.ow (.dit [])) ρ
theorem sn_dnewT : Snd G tDNewT lDNewT := fun ρ σ S H Q P R0 h k p hp => by
  obtain ⟨w, R0⟩ := R0
  exact k _ _ _ _ h (R0.res ⟨p, [p], rfl, Same.new (Same.refl H) hp, own_fresh (av := G.av w) hp (fun _ z => by cases z), fun av1 up => ⟨rfl, [], upd_same, rfl, .nil⟩⟩)
/-! fields -/
theorem lookup_dns {av : Addr → Prop} {H : Hp} {f : Str} {t : T} : ∀ {fs : List (Str × V)} {ft : List (Str × T)}, fs.map Prod.fst = ft.map Prod.fst → Dns av H (fs.map Prod.snd) (ft.map Prod.snd) → ft.lookup f = some t → ∃ v, fs.lookup f = some v ∧ Dn av H v t
  | [], [], _, _, e => by cases e
  | [], _ :: _, e, _, _ => by cases e
  | _ :: _, [], e, _, _ => by cases e
  | (k1, v) :: ks, (k2, u) :: kt, e, d, h => by
    rw [List.map_cons, List.map_cons] at e d
    injection e with e1 e2
    have e1' : k1 = k2 := e1
    subst e1'
    cases d with
    | cons d ds =>
      by_cases c : f = k1
      · subst c
        simp [List.lookup] at h ⊢
        rw [← h]; exact d
      · have c' : (f == k1) = false := by simpa using c
        simp only [List.lookup, c'] at h ⊢
        exact lookup_dns e2 ds h
theorem lookup_no {f : Str} : ∀ {fs : List (Str × V)} {ft : List (Str × T)}, fs.map Prod.fst = ft.map Prod.fst → ft.lookup f = none → fs.lookup f = none
  | [], [], _, _ => rfl
  | [], _ :: _, e, _ => by cases e
  | _ :: _, [], e, _ => by cases e
  | (k1, v) :: ks, (k2, u) :: kt, e, h => by
    rw [List.map_cons, List.map_cons] at e
    injection e with e1 e2
    have e1' : k1 = k2 := e1
    subst e1'
    by_cases c : f = k1
    · subst c; simp [List.lookup] at h
    · have c' : (f == k1) = false := by simpa using c
      simp only [List.lookup, c'] at h ⊢
      exact lookup_no e2 h
def lFld (K : PySem.W.Frag) (f : Str) (la : LE) : LE := fun ρ Q => la ρ fun p ρ1 => ∃ C ft t, val ρ1 p = some (.ins C ft) ∧ Cls K C ∧ NoAttr K C f ∧ ft.lookup f = some t ∧ Q (.sh t) ρ1
theorem sn_fld {f : Str} (ha : Snd G ta la) : Snd G (tFld K ta f) (lFld K f la) := by
  intro ρ σ S H Q P R0 h k
  refine ha ρ σ S H _ _ R0 h fun p ρ1 x H1 h1 R1 => ?_
  obtain ⟨C, ft, t, e1, cl, na, e2, h1⟩ := h1
  obtain ⟨w, R1⟩ := R1
  obtain ⟨a, dx, fs, rfl, e3, k3, d⟩ := (R1.rk R1.top e1).ins
  obtain ⟨v, e4, d4⟩ := lookup_dns k3 d e2
  exact ⟨a, C, dx, fs, v, rfl, e3, cl, na, e4, k _ _ _ _ h1 (R1.pop.res (Nw.here d4))⟩
/-! slices -/
abbrev LO := Env → (Option Int → Env → Prop) → Prop
def SndO (G : Gh) (to : TO) (lo : LO) : Prop := ∀ (ρ : Env) (σ : St) (S : Stk) (H : Hp) (Q : Option Int → Hp → Prop) (P : Option Int → Env → Prop), R G ρ σ S H → lo ρ P → (∀ b ρ' H', P b ρ' → R G ρ' σ S H' → Q b H') → to σ H Q
def lNoPart : LO := fun ρ Q => Q none ρ
theorem sn_noPart : SndO G tNoPart lNoPart := fun ρ σ S H Q P R0 q k => k _ _ _ q R0
def lPart (le : LE) : LO := fun ρ Q => le ρ fun p ρ1 => ∃ i, val ρ1 p = some (.int i) ∧ Q (some i) ρ1
theorem sn_part (h : Snd G te le) : SndO G (tPart te) (lPart le) := by
  intro ρ σ S H Q P R0 q k
  refine h ρ σ S H _ _ R0 q fun p ρ1 x H1 h1 R1 => ?_
  obtain ⟨i, e, h2⟩ := h1
  obtain ⟨w, R1⟩ := R1
  obtain rfl := (R1.rk R1.top e).int
  exact ⟨i, rfl, k _ _ _ h2 ⟨w, R1.pop⟩⟩
def SlS (r : V → Option Int → Option Int → Hp → VK → Prop) (lr : T → Option Int → Option Int → (PV → Prop) → Prop) : Prop :=
  ∀ (av : Addr → Prop) (H : Hp) (x : V) (s : T) (lo hi : Option Int) (Q : VK) (P : PV → Prop), (∀ a, av a → Liv H a) → Rk av H x s → lr s lo hi P → (∀ p v H', P p → Nw av H H' v p → Q v H') → r x lo hi H Q
def lSl (lr : T → Option Int → Option Int → (PV → Prop) → Prop) (le : LE) (l1 l2 : LO) : LE := fun ρ Q => le ρ fun p ρ1 => l1 ρ1 fun lo ρ2 => l2 ρ2 fun hi ρ3 => ∃ s, val ρ3 p = some s ∧ lr s lo hi fun r => Q r ρ3
theorem sn_sl {r : V → Option Int → Option Int → Hp → VK → Prop} {lr : T → Option Int → Option Int → (PV → Prop) → Prop} {t1 t2 : TO} {l1 l2 : LO} (ho : SlS r lr) (h : Snd G te le) (h1 : SndO G t1 l1) (h2 : SndO G t2 l2) : Snd G (tSl r te t1 t2) (lSl lr le l1 l2) := by
  intro ρ σ S H Q P R0 q k
  refine h ρ σ S H _ _ R0 q fun p ρ1 x H1 q1 R1 => ?_
  refine h1 ρ1 σ _ H1 _ _ R1 q1 fun lo ρ2 H2 q2 R2 => ?_
  refine h2 ρ2 σ _ H2 _ _ R2 q2 fun hi ρ3 H3 q3 R3 => ?_
  obtain ⟨s, e, q3⟩ := q3
  obtain ⟨w, R3⟩ := R3
  exact ho (G.av w) H3 x s lo hi Q _ R3.live (R3.rk R3.top e) q3 fun u v H4 h4 n => k _ _ _ _ h4 (R3.pop.res n)
def cutT {α : Type} (xs : List α) (lo hi : Option Int) : List α := (xs.drop (HT.sIx xs.length 0 lo)).take (HT.sIx xs.length xs.length hi - HT.sIx xs.length 0 lo)
theorem Dns.cut {av : Addr → Prop} {H : Hp} {vs : List V} {ts : List T} (d : Dns av H vs ts) (lo hi : Option Int) : Dns av H (cutV vs lo hi) (cutT ts lo hi) := by
  unfold cutV cutT
  rw [d.len]
  exact (d.drop _).take _
def vSlL (s : T) (lo hi : Option Int) (Q : PV → Prop) : Prop := ∃ ts, s = .lst ts ∧ Q (.ow (.lst (cutT ts lo hi)))
theorem sls_L : SlS (rSlL K) vSlL := by
  rintro av H x s lo hi Q P lv hx ⟨ts, rfl, q⟩ k
  obtain ⟨a, vs, rfl, e, d⟩ := hx.lst
  exact ⟨a, vs, rfl, SqL.of e, fun p hp => k _ _ _ q (Nw.lst hp (d.cut lo hi))⟩
def vSlS (s : T) (lo hi : Option Int) (Q : PV → Prop) : Prop := ∃ z, s = .str z ∧ z.length ≤ 16777216 ∧ Q (.sh (.str (cutS z lo hi)))
theorem sls_S : SlS rSlS vSlS := by
  rintro av H x s lo hi Q P lv hx ⟨z, rfl, l, q⟩ k
  obtain rfl := hx.str
  exact ⟨z, rfl, by rw [sizeLine_eq]; exact l, k _ _ _ q (Nw.here (.str _))⟩
def lRevL (le : LE) : LE := fun ρ Q => le ρ fun p ρ1 => ∃ ts, val ρ1 p = some (.lst ts) ∧ Q (.ow (.lst ts.reverse)) ρ1
theorem sn_revL (h : Snd G te le) : Snd G (tRevL K te) (lRevL le) := by
  intro ρ σ S H Q P R0 q k
  refine h ρ σ S H _ _ R0 q fun p ρ1 x H1 h1 R1 => ?_
  obtain ⟨ts, e, h2⟩ := h1
  obtain ⟨w, R1⟩ := R1
  obtain ⟨a, vs, rfl, e1, d⟩ := (R1.rk R1.top e).lst
  exact ⟨a, vs, rfl, SqL.of e1, fun p hp => k _ _ _ _ h2 (R1.pop.res (Nw.lst hp d.rev))⟩
/-! methods that only read -/
def MtS (r : V → List V → Hp → VK → Prop) (lr : T → List T → (PV → Prop) → Prop) : Prop :=
  ∀ (av : Addr → Prop) (H : Hp) (x : V) (s : T) (xs : List V) (ts : List T) (Q : VK) (P : PV → Prop), (∀ a, av a → Liv H a) → Rk av H x s → Rks av H xs ts → lr s ts P → (∀ p v H', P p → Nw av H H' v p → Q v H') → r x xs H Q
def tyT (n : String) : T → Prop
  | .str _ => n = "str"
  | .lst _ => n = "list"
  | .dit _ => n = "dict"
  | _ => False
theorem ty_of {av : Addr → Prop} {H : Hp} {x : V} {t : T} {n : String} (h : Rk av H x t) (e : tyT n t) : tyV K n x H := by
  cases t with
  | str z => cases h.str; exact e
  | lst ts => obtain ⟨a, vs, rfl, e1, d⟩ := h.lst; exact .inl ⟨e, vs, SqL.of e1⟩
  | dit ts => obtain ⟨a, vs, rfl, e1, d⟩ := h.dit; exact .inr (.inr (.inl ⟨e, .inr ⟨vs, e1⟩⟩))
  | _ => exact e.elim
def lBM (n : String) (lr : T → List T → (PV → Prop) → Prop) (lo : LE) (l : LA) : LE := fun ρ Q => lo ρ fun p ρ1 => ∃ s, val ρ1 p = some s ∧ tyT n s ∧ l ρ1 fun ps ρ2 => ∃ s2 ts, val ρ2 p = some s2 ∧ vals ρ2 ps = some ts ∧ lr s2 ts fun r => Q r ρ2
theorem sn_bm {n : String} {r : V → List V → Hp → VK → Prop} {lr : T → List T → (PV → Prop) → Prop} {to : TE} {lo : LE} {t : TA} {l : LA} (hm : MtS r lr) (ho : Snd G to lo) (ha : SndA G t l) : Snd G (tBM K n r to t) (lBM n lr lo l) := by
  intro ρ σ S H Q P R0 q k
  refine ho ρ σ S H _ _ R0 q fun p ρ1 x H1 h1 R1 => ?_
  obtain ⟨s, e, ty, h2⟩ := h1
  obtain ⟨w, R1'⟩ := id R1
  refine ⟨ty_of (R1'.rk R1'.top e) ty, ?_⟩
  refine ha ρ1 σ _ H1 _ _ R1 h2 fun ps ρ2 vs H2 h3 hl R2 => ?_
  obtain ⟨s2, ts, e2, e3, h3⟩ := h3
  obtain ⟨w2, R2⟩ := R2
  exact hm (G.av w2) H2 x s2 vs ts Q _ R2.live (R2.unpsh.rk R2.unpsh.top e2) (R2.rks hl e3) h3 fun u v H3 h4 nw => k _ _ _ _ h4 (R2.unpsh.pop.res nw)
def lM1 (lr : T → List T → (PV → Prop) → Prop) (lo le : LE) : LE := fun ρ Q => lo ρ fun p ρ1 => ∃ z, p = .sh (.str z) ∧ le ρ1 fun q ρ2 => ∃ t, val ρ2 q = some t ∧ lr (.str z) [t] fun r => Q r ρ2
theorem sn_m1 {r : V → List V → Hp → VK → Prop} {lr : T → List T → (PV → Prop) → Prop} {to : TE} {lo : LE} (hm : MtS r lr) (ho : Snd G to lo) (ha : Snd G te le) : Snd G (tM1 r to te) (lM1 lr lo le) := by
  intro ρ σ S H Q P R0 q k
  refine ho ρ σ S H _ _ R0 q fun p ρ1 x H1 h1 R1 => ?_
  obtain ⟨z, rfl, h2⟩ := h1
  obtain ⟨w, R1'⟩ := id R1
  have ex : x = .str z := (R1'.rk (t := .str z) R1'.top rfl).str
  subst ex
  refine ⟨⟨z, rfl⟩, ?_⟩
  refine ha ρ1 σ _ H1 _ _ R1 h2 fun q ρ2 y H2 h3 R2 => ?_
  obtain ⟨t, e3, h3⟩ := h3
  obtain ⟨w2, R2⟩ := R2
  exact hm (G.av w2) H2 _ (.str z) [y] [t] Q _ R2.live (.inl (.str z)) (.cons (R2.rk R2.top e3) .nil) h3 fun u v H3 h4 nw => k _ _ _ _ h4 (R2.pop.pop.res nw)
end
end LP
end
section
set_option maxRecDepth 100000
set_option maxHeartbeats 4000000
namespace LP
open PySem L2 LH
/-! ### statements -/
structure LEnds where
  nx : Env → Prop
  rt : PV → Env → Prop
  bk : Env → Prop := fun _ => False
  ct : Env → Prop := fun _ => False
structure EndOk (G : Gh) (S : Stk) (D : Ends) (L : LEnds) : Prop where
  nx : ∀ ρ σ H, R G ρ σ S H → L.nx ρ → D.nx σ H
  bk : ∀ ρ σ H, R G ρ σ S H → L.bk ρ → D.bk σ H
  ct : ∀ ρ σ H, R G ρ σ S H → L.ct ρ → D.ct σ H
  rt : ∀ p ρ σ v H, R G ρ σ ((v, p) :: S) H → L.rt p ρ → D.rt v H
abbrev LS := LEnds → Env → Prop
def SndS (G : Gh) (S : Stk) (ts : TS) (ls : LS) : Prop := ∀ (D : Ends) (L : LEnds) (ρ : Env) (σ : St) (H : Hp), NoAl S → R G ρ σ S H → EndOk G S D L → ls L ρ → ts D σ H
section
variable {G : Gh} {S : Stk} {D : Ends} {L : LEnds} {ρ ρ' : Env} {σ : St} {H : Hp}
theorem EndOk.next {N : Env → Prop} {N' : St → Hp → Prop} (e : EndOk G S D L) (h : ∀ ρ σ H, R G ρ σ S H → N ρ → N' σ H) : EndOk G S { D with nx := N' } { L with nx := N } := ⟨h, e.bk, e.ct, e.rt⟩
/-- the same with something held for good -/
theorem StkAt.tail_app {w : Addr → Option Loc} : ∀ {A : Stk}, StkAt G w σ H (A ++ S) → StkAt G w σ H S
  | [], h => h
  | _ :: A, h => StkAt.tail_app (A := A) h.2
theorem R.drop {A : Stk} (r : R G ρ σ (A ++ S) H) : R G ρ σ S H := by
  obtain ⟨w, r⟩ := r
  exact ⟨w, r.len, r.slot, StkAt.tail_app r.stk, r.own, r.frame, r.avs, fun v j m => r.als v j (List.mem_append_right _ m)⟩
/-- what is under the top is dropped -/
theorem R.under {A : Stk} {v : V} {p : PV} (r : R G ρ σ ((v, p) :: (A ++ S)) H) : R G ρ σ ((v, p) :: S) H := by
  obtain ⟨w, r⟩ := r
  let w1 : Addr → Option Loc := fun b => if w b = some (.pn (A ++ S).length) then some (.pn S.length) else w b
  have lt : ∀ b l, w1 b = some l → ∃ l, w b = some l := fun b l z => by
    by_cases c : w b = some (.pn (A ++ S).length)
    · exact ⟨_, c⟩
    · have e : w1 b = w b := if_neg c
      exact ⟨l, e.symm.trans z⟩
  have up : ∀ b, G.av w1 b → G.av w b := fun b z => z.imp id fun ⟨l, z⟩ => lt b l z
  have kp : ∀ b l, l ≠ .pn (A ++ S).length → w b = some l → w1 b = some l := fun b l n e => by
    show (if _ then _ else _) = _
    rw [if_neg (by rw [e]; intro z; exact n (Option.some.inj z)), e]
  have rs := StkAt.tail_app (A := A) r.pop.stk
  refine ⟨w1, r.len, fun i p x hp hx => ?_, ⟨?_, rs.up (fun _ _ _ => rfl) (fun b z => .inl (up b z)) fun b j hj e => kp b _ (by intro z; injection z with z; rw [List.length_append] at z; omega) e⟩, fun b l e => ?_, r.frame, r.avs, fun u j m => r.als u j ((List.mem_cons.mp m).elim (fun e => by rw [e]; exact List.mem_cons_self) fun m => List.mem_cons_of_mem _ (List.mem_append_right _ m))⟩
  · obtain ⟨v, e, z⟩ := r.slot i p x hp hx
    exact ⟨v, e, z.up (fun _ _ => rfl) (fun b z => .inl (up b z)) fun b e => kp b _ (by intro z; cases z) e⟩
  · have z := r.top
    cases p with
    | sh t => exact Dn.up (fun b z => .inl (up b z)) z
    | fz t => exact Dn.up (fun b z => .inl (up b z)) z
    | ow t =>
      obtain ⟨a, F, e, o, f⟩ := z
      exact ⟨a, F, e, o.up fun b z => .inl (up b z), fun b hb => if_pos (f b hb)⟩
    | al j => exact z
    | io t => exact ⟨z.1, z.2.1.up fun b z => .inl (up b z), fun b hb => if_pos (z.2.2 b hb)⟩
    | cx a d C fs =>
      obtain ⟨e, n, fv, h1, h2, h3⟩ := z
      exact ⟨e, fun y => n (up _ y), fv, h1, h2, h3.up fun b z => .inl (up b z)⟩
  · obtain ⟨l', e'⟩ := lt b l e
    exact r.own b l' e'
theorem NoAl.app {A : Stk} (hA : ∀ q ∈ A, ∃ v t, q = (v, PV.sh t)) (h : NoAl S) : NoAl (A ++ S) := fun v j m => (List.mem_append.mp m).elim (fun m => by obtain ⟨_, _, e⟩ := hA _ m; cases e) (h v j)
end
section
variable {ta tb tc te td ty tv : TE} {la lb lc le ld ly lv : LE} {K : PySem.W.Frag} {t u : TS} {l m : LS}
def lNext : LS := fun L ρ => L.nx ρ
theorem sn_next : SndS G S tNext lNext := fun D L ρ σ H _ r e q => e.nx _ _ _ r q
def lBreak : LS := fun L ρ => L.bk ρ
theorem sn_break : SndS G S tBreak lBreak := fun D L ρ σ H _ r e q => e.bk _ _ _ r q
def lCont : LS := fun L ρ => L.ct ρ
theorem sn_cont : SndS G S tCont lCont := fun D L ρ σ H _ r e q => e.ct _ _ _ r q
def lSeq (l m : LS) : LS := fun L ρ => l { L with nx := m L } ρ
theorem sn_seq (h1 : SndS G S t l) (h2 : SndS G S u m) : SndS G S (tSeq t u) (lSeq l m) := fun D L ρ σ H n r e q =>
  h1 _ _ ρ σ H n r (e.next fun ρ' σ' H' r' q' => h2 D L ρ' σ' H' n r' e q') q
def lCut (l m : LS) : LS := fun L ρ => ∃ M : Env → Prop, l { L with nx := M } ρ ∧ ∀ ρ', M ρ' → m L ρ'
theorem sn_cut (h1 : SndS G S t l) (h2 : SndS G S u m) : SndS G S (Evl.tCut t u) (lCut l m) := fun D L ρ σ H n r e ⟨M, q, k⟩ =>
  ⟨fun σ' H' => ∃ ρ', R G ρ' σ' S H' ∧ M ρ', h1 _ _ ρ σ H n r (e.next fun ρ' σ' H' r' q' => ⟨ρ', r', q'⟩) q, fun σ' H' ⟨ρ', r', q'⟩ => h2 D L ρ' σ' H' n r' e (k ρ' q')⟩
def lIfS (c : LT) (l m : LS) : LS := fun L ρ => c ρ fun b ρ1 => if b = true then l L ρ1 else m L ρ1
theorem sn_ifS {c : TT} {lc : LT} (hc : SndT G c lc) (h1 : SndS G S t l) (h2 : SndS G S u m) : SndS G S (tIfS c t u) (lIfS lc l m) := by
  intro D L ρ σ H n r e q
  refine hc ρ σ S H _ _ r q fun b ρ1 H1 q1 R1 => ?_
  cases b with
  | true => exact h1 D L ρ1 σ H1 n R1 e q1
  | false => exact h2 D L ρ1 σ H1 n R1 e q1
def lRet (le : LE) : LS := fun L ρ => le ρ L.rt
theorem sn_ret (h : Snd G te le) : SndS G S (tRet te) (lRet le) := fun D L ρ σ H n r e q => h ρ σ S H _ _ r q fun p ρ' v H' q' r' => e.rt _ _ _ _ _ r' q'
def lRetN : LS := fun L ρ => L.rt (.sh .non) ρ
theorem sn_retN : SndS G S tRetN lRetN := fun D L ρ σ H n r e q => e.rt _ _ _ _ _ (r.leaf fun _ _ => .non) q
def lDrop (le : LE) : LS := fun L ρ => le ρ fun _ ρ1 => L.nx ρ1
theorem sn_drop (h : Snd G te le) : SndS G S (tDrop te) (lDrop le) := fun D L ρ σ H n r e q => h ρ σ S H _ _ r q fun p ρ' v H' q' r' => e.nx _ _ _ r'.pop q'
theorem sn_never : SndS G S tNever fun _ _ => False := fun _ _ _ _ _ _ _ _ q => q.elim
/-! names are given -/
def lAsg (le : LE) (i : Nat) : LS := fun L ρ => le ρ fun p ρ1 => ∃ q ρ2, stv ρ1 p = some (q, ρ2) ∧ L.nx (ρ2.set i (some q))
theorem sn_asg {i : Nat} (h : Snd G te le) : SndS G S (tAsg te (gName i)) (lAsg le i) := by
  intro D L ρ σ H n r e q
  refine h ρ σ S H _ _ r q fun p ρ1 v H1 q1 R1 => ?_
  obtain ⟨p', ρ2, e1, q1⟩ := q1
  obtain ⟨R2, na⟩ := R1.stv e1
  exact e.nx _ _ _ (R2.store i (n.at i) na) q1
abbrev LG := T → Env → (Env → Prop) → Prop
abbrev LGs := List T → Env → (Env → Prop) → Prop
/-- of these places no alias is held -/
def AlOk (S : Stk) (vs : List Nat) : Prop := ∀ i ∈ vs, NoAlAt i S
theorem NoAl.ok {S : Stk} (h : NoAl S) (vs : List Nat) : AlOk S vs := fun i _ => h.at i
theorem AlOk.sh {S : Stk} {vs : List Nat} {v : V} {t : T} (h : AlOk S vs) : AlOk ((v, .sh t) :: S) vs := fun i m u j k => (List.mem_cons.mp k).elim (fun e => by cases e) (h i m u j)
def SndG (G : Gh) (tg : TG) (lg : LG) (vs : List Nat) : Prop := ∀ (S : Stk) (ρ : Env) (σ : St) (H : Hp) (v : V) (t : T) (Q : St → Hp → Prop) (P : Env → Prop), AlOk S vs → R G ρ σ ((v, .sh t) :: S) H → lg t ρ P → (∀ ρ' σ' H', P ρ' → R G ρ' σ' S H' → Q σ' H') → tg v σ H Q
def zs : List V → List T → Stk → Stk
  | v :: vs, t :: ts, S => (v, .sh t) :: zs vs ts S
  | _, _, S => S
theorem AlOk.zs {S : Stk} {is : List Nat} (h : AlOk S is) : ∀ (vs : List V) (ts : List T), AlOk (zs vs ts S) is
  | [], _ => by cases ‹List T› <;> exact h
  | _ :: _, [] => h
  | _ :: vs, _ :: ts => (AlOk.zs h vs ts).sh
def SndGs (G : Gh) (tg : TGs) (lg : LGs) (is : List Nat) : Prop := ∀ (S : Stk) (ρ : Env) (σ : St) (H : Hp) (vs : List V) (ts : List T) (Q : St → Hp → Prop) (P : Env → Prop), AlOk S is → vs.length = ts.length → R G ρ σ (zs vs ts S) H → lg ts ρ P → (∀ ρ' σ' H', P ρ' → R G ρ' σ' S H' → Q σ' H') → tg vs σ H Q
def lgName (i : Nat) : LG := fun t ρ Q => Q (ρ.set i (some (.sh t)))
theorem sg_name {i : Nat} : SndG G (gName i) (lgName i) [i] := fun S ρ σ H v t Q P n r q k => k _ _ _ q (r.store i (n i List.mem_cons_self) fun j z => by cases z)
def lgNil : LGs := fun ts ρ Q => ts = [] ∧ Q ρ
theorem sg_nil : SndGs G gNil lgNil [] := by
  rintro S ρ σ H vs ts Q P n l r ⟨rfl, q⟩ k
  have : vs = [] := List.eq_nil_of_length_eq_zero l
  subst this
  exact ⟨rfl, k _ _ _ q r⟩
def lgCons (g : LG) (gs : LGs) : LGs := fun ts ρ Q => ∃ t r, ts = t :: r ∧ g t ρ fun ρ1 => gs r ρ1 Q
theorem sg_cons {tg : TG} {tgs : TGs} {g : LG} {gs : LGs} {is js : List Nat} (h1 : SndG G tg g is) (h2 : SndGs G tgs gs js) : SndGs G (gCons tg tgs) (lgCons g gs) (is ++ js) := by
  rintro S ρ σ H vs ts Q P n l r ⟨t, ts', rfl, q⟩ k
  cases vs with
  | nil => cases l
  | cons v vs =>
    refine ⟨v, vs, rfl, h1 (zs vs ts' S) ρ σ H v t _ _ (AlOk.zs (fun i m => n i (List.mem_append_left _ m)) vs ts') r q fun ρ1 σ1 H1 q1 R1 => ?_⟩
    exact h2 S ρ1 σ1 H1 vs ts' Q P (fun i m => n i (List.mem_append_right _ m)) (by simpa using l) R1 q1 k
theorem RO.zs {G : Gh} {w : Addr → Option Loc} {ρ : Env} {σ : St} {S : Stk} {H : Hp} (r : RO G w ρ σ S H) : ∀ {vs : List V} {ts : List T}, Dns (G.av w) H vs ts → RO G w ρ σ (zs vs ts S) H
  | _, _, .nil => r
  | _, _, .cons d ds => (RO.zs r ds).push d
def lgTup (k : Nat) (gs : LGs) : LG := fun t ρ Q => ∃ ts, t = .tup ts ∧ ts.length = k ∧ gs ts ρ Q
theorem sg_tup {k : Nat} {tgs : TGs} {gs : LGs} {is : List Nat} (h : SndGs G tgs gs is) : SndG G (gTup K k tgs) (lgTup k gs) is := by
  rintro S ρ σ H v t Q P n ⟨w, r⟩ ⟨ts, rfl, l, q⟩ kk
  have z : Dn (G.av w) H v (.tup ts) := r.top
  cases z with
  | tup na e d =>
    exact ⟨_, _, rfl, SqT.of e, by rw [d.len, l], h S ρ σ H _ ts Q P n d.len ⟨w, r.pop.zs d⟩ q kk⟩
def lAsgG (le : LE) (g : LG) : LS := fun L ρ => le ρ fun p ρ1 => ∃ t ρ2, frz ρ1 p = some (t, ρ2) ∧ g t ρ2 L.nx
theorem sn_asgG {tg : TG} {g : LG} {is : List Nat} (h : Snd G te le) (hg : SndG G tg g is) : SndS G S (tAsg te tg) (lAsgG le g) := by
  intro D L ρ σ H n r e q
  refine h ρ σ S H _ _ r q fun p ρ1 v H1 q1 R1 => ?_
  obtain ⟨t, ρ2, e1, q1⟩ := q1
  exact hg S ρ2 σ H1 v t _ _ (n.ok is) (R1.frz e1) q1 fun ρ' σ' H' q' r' => e.nx _ _ _ r' q'
/-- a pair at once -/
def lPar (la : LA) (i j : Nat) : LS := fun L ρ => la ρ fun ps ρ1 => ∃ p q s ρ2 q' ρ3, ps = [p, q] ∧ stv ρ1 q = some (q', ρ2) ∧ stv (ρ2.set j (some q')) p = some (s, ρ3) ∧ (∀ k, p ≠ .al k) ∧ L.nx (ρ3.set i (some s))
theorem sn_par {i j : Nat} {t : TA} {l : LA} (ij : i ≠ j) (h : SndA G t l) : SndS G S (tPar i j t) (lPar l i j) := by
  intro D L ρ σ H n r e q
  refine h ρ σ S H _ _ r q fun ps ρ1 vs H1 q1 hl R1 => ?_
  obtain ⟨p, q, s, ρ2, q', ρ3, rfl, e1, e2, np, q1⟩ := q1
  match vs, hl with
  | [v, x], _ =>
    have R1' : R G ρ1 σ ((x, q) :: (v, p) :: S) H1 := R1
    obtain ⟨R2, na⟩ := R1'.stv e1
    have n2 : NoAl ((v, p) :: S) := fun u k m => (List.mem_cons.mp m).elim (fun z => by cases z; exact np k rfl) (n u k)
    have R3 := R2.store j (n2.at j) na
    obtain ⟨R4, na2⟩ := R3.stv e2
    refine ⟨v, x, rfl, ?_⟩
    have z := e.nx _ _ _ (R4.store i (n.at i) na2) q1
    rwa [List.set_comm _ _ (Ne.symm ij)] at z
/-! what is ours changes -/
theorem psh_mid {G : Gh} {ρ : Env} {σ : St} {H : Hp} {vs : List V} {ps : List PV} {S : Stk} (r : R G ρ σ (psh vs ps S) H) : R G ρ σ S H := r.unpsh
def MutS (r : V → List V → Hp → VK → Prop) (lm : List T → List T → (List T → T → Prop) → Prop) : Prop :=
  ∀ (av : Addr → Prop) (H : Hp) (a : Addr) (vs : List V) (ts : List T) (xs : List V) (as : List T) (Q : VK) (P : List T → T → Prop), H a = some (.lst vs) → Dns av H vs ts → Dns av H xs as → lm ts as P →
    (∀ ts' u vs' v, P ts' u → Dns av H vs' ts' → Dn av H v u → Q v (upd H a (.lst vs'))) → r (.ref a) xs H Q
theorem RO.upd_lst {G : Gh} {w : Addr → Option Loc} {ρ : Env} {σ : St} {S : Stk} {H : Hp} {i : Nat} {a : Addr} {o : HO} {t : T} (r : RO G w ρ σ S H) (hv : σ[i]? = some (some (.ref a))) (ha : w a = some (.sl i)) (nt : ∀ xs, o ≠ .tup xs) (ow : Own (G.av w) (upd H a o) a t [a]) : RO G w (ρ.set i (some (.ow t))) σ S (upd H a o) := by
  refine r.change hv (fun b u nb e => ?_) ow (fun b hb => by rw [List.mem_singleton.mp hb]; exact ha) fun b e => ?_
  · rw [upd_ne (fun z => nb (by rw [z]; exact ha))]; exact e
  · obtain ⟨_, _, h⟩ := r.own b _ e
    by_cases c : b = a
    · exact ⟨o, by rw [c]; exact upd_same, nt⟩
    · exact h.same fun u q => by rw [upd_ne c]; exact q
theorem Dn.upd' {av : Addr → Prop} {H : Hp} {a : Addr} {o : HO} {v : V} {t : T} (d : Dn av H v t) (ha : av a) : Dn av (upd H a o) v t := d.fr fun b u n e => by rw [upd_ne (fun z => n (by rw [z]; exact ha))]; exact e
theorem Dns.upd' {av : Addr → Prop} {H : Hp} {a : Addr} {o : HO} {vs : List V} {ts : List T} (d : Dns av H vs ts) (ha : av a) : Dns av (upd H a o) vs ts := d.fr fun b u n e => by rw [upd_ne (fun z => n (by rw [z]; exact ha))]; exact e
def lMut (lm : List T → List T → (List T → T → Prop) → Prop) (lo : LE) (l : LA) : LE := fun ρ Q => lo ρ fun p ρ1 => ∃ i ts0, p = .al i ∧ ρ1[i]? = some (some (.ow (.lst ts0))) ∧ l ρ1 fun ps ρ2 => ∃ as ρ3 ts, frzs ρ2 ps = some (as, ρ3) ∧ ρ3[i]? = some (some (.ow (.lst ts))) ∧ lm ts as fun ts' u => Q (.sh u) (ρ3.set i (some (.ow (.lst ts'))))
theorem sn_mut {r : V → List V → Hp → VK → Prop} {lm : List T → List T → (List T → T → Prop) → Prop} {to : TE} {lo : LE} {t : TA} {l : LA} (hm : MutS r lm) (ho : Snd G to lo) (ha : SndA G t l) : Snd G (tBM K "list" r to t) (lMut lm lo l) := by
  intro ρ σ S H Q P R0 q k
  refine ho ρ σ S H _ _ R0 q fun p ρ1 x H1 h1 R1 => ?_
  obtain ⟨i, ts0, rfl, e0, h1⟩ := h1
  refine ⟨?_, ?_⟩
  · obtain ⟨w, R1⟩ := R1
    have hx : σ[i]? = some (some x) := R1.top
    obtain ⟨v, hv, a, F, rfl, ⟨_, vs, e, d⟩, _⟩ := R1.at_slot e0
    rw [hx] at hv; cases hv
    exact .inl ⟨rfl, vs, SqL.of e⟩
  · refine ha ρ1 σ _ H1 _ _ R1 h1 fun ps ρ2 xs H2 h2 hl R2 => ?_
    obtain ⟨as, ρ3, ts, e1, e2, h2⟩ := h2
    obtain ⟨⟨w, R3⟩, hl3⟩ := R.frzs R2 hl e1
    have das := R3.dns hl3
    have R4 := R3.unpsh
    have hx : σ[i]? = some (some x) := R4.top
    obtain ⟨v, hv, a, F, rfl, ⟨rfl, vs, e, d⟩, f⟩ := R4.at_slot e2
    rw [hx] at hv; cases hv
    have fa := f a List.mem_cons_self
    have ava : G.av w a := .inr ⟨_, fa⟩
    refine hm (G.av w) H2 a vs ts xs as Q _ e d das h2 fun ts' u vs' v' h3 d' du => ?_
    refine k _ _ _ _ h3 ⟨w, RO.push (RO.upd_lst R4.pop hx fa (fun _ z => by cases z) ⟨rfl, vs', upd_same, d'.upd' ava⟩) (du.upd' ava)⟩
def lMut0 (lm : List T → List T → (List T → T → Prop) → Prop) (lo : LE) : LE := fun ρ Q => lo ρ fun p ρ1 => ∃ i ts, p = .al i ∧ ρ1[i]? = some (some (.ow (.lst ts))) ∧ lm ts [] fun ts' u => Q (.sh u) (ρ1.set i (some (.ow (.lst ts'))))
theorem sn_mut0 {r : V → List V → Hp → VK → Prop} {lm : List T → List T → (List T → T → Prop) → Prop} {to : TE} {lo : LE} (hm : MutS r lm) (ho : Snd G to lo) : Snd G (tBM0 K "list" r to) (lMut0 lm lo) := by
  intro ρ σ S H Q P R0 q k
  refine ho ρ σ S H _ _ R0 q fun p ρ1 x H1 h1 R1 => ?_
  obtain ⟨i, ts, rfl, e2, h2⟩ := h1
  obtain ⟨w, R4⟩ := R1
  have hx : σ[i]? = some (some x) := R4.top
  obtain ⟨v, hv, a, F, rfl, ⟨rfl, vs, e, d⟩, f⟩ := R4.at_slot e2
  rw [hx] at hv; cases hv
  have fa := f a List.mem_cons_self
  have ava : G.av w a := .inr ⟨_, fa⟩
  refine ⟨.inl ⟨rfl, vs, SqL.of e⟩, hm (G.av w) H1 a vs ts [] [] Q _ e d .nil h2 fun ts' u vs' v' h3 d' du => ?_⟩
  exact k _ _ _ _ h3 ⟨w, RO.push (RO.upd_lst R4.pop hx fa (fun _ z => by cases z) ⟨rfl, vs', upd_same, d'.upd' ava⟩) (du.upd' ava)⟩
def mAppend (ts as : List T) (P : List T → T → Prop) : Prop := ∃ t, as = [t] ∧ ts.length < 16777216 ∧ P (ts ++ [t]) .non
theorem ms_append : MutS rAppend mAppend := by
  rintro av H a vs ts xs as Q P e d da ⟨t, rfl, l, q⟩ k
  cases da with
  | cons dx dn => cases dn; exact ⟨a, vs, _, rfl, rfl, e, by rw [d.len, sizeLine_eq]; exact l, k _ _ _ _ q (d.app (.cons dx .nil)) .non⟩
def mPopAt (ts as : List T) (P : List T → T → Prop) : Prop := ∃ (i : Int) (j : Nat) (t : T), as = [.int i] ∧ -(2 ^ 63) ≤ i ∧ i < 2 ^ 63 ∧ seqIndex? i ts.length = some j ∧ ts[j]? = some t ∧ P (ts.eraseIdx j) t
theorem ms_popAt : MutS rPopAt mPopAt := by
  rintro av H a vs ts xs as Q P e d da ⟨i, j, t, rfl, h1, h2, h3, h4, q⟩ k
  cases da with
  | cons dx dn =>
    cases dn
    cases dx
    obtain ⟨v, hv, dv⟩ := d.get' h4
    exact ⟨a, vs, i, j, v, rfl, rfl, e, h1, h2, by rw [d.len]; exact h3, hv, k _ _ _ _ q (d.erase j) dv⟩
def mPop (ts as : List T) (P : List T → T → Prop) : Prop := ∃ t, as = [] ∧ ts[ts.length - 1]? = some t ∧ P ts.dropLast t
theorem Dns.dropLast {av : Addr → Prop} {H : Hp} {vs : List V} {ts : List T} (d : Dns av H vs ts) : Dns av H vs.dropLast ts.dropLast := by
  rw [List.dropLast_eq_take, List.dropLast_eq_take, d.len]
  exact d.take _
theorem ms_pop : MutS rPop mPop := by
  rintro av H a vs ts xs as Q P e d da ⟨t, rfl, h4, q⟩ k
  cases da
  obtain ⟨v, hv, dv⟩ := d.get' h4
  exact ⟨a, vs, v, rfl, rfl, e, by rw [d.len]; exact hv, k _ _ _ _ q d.dropLast dv⟩
def mClear (ts as : List T) (P : List T → T → Prop) : Prop := as = [] ∧ P [] .non
theorem ms_clear : MutS rClear mClear := by
  rintro av H a vs ts xs as Q P e d da ⟨rfl, q⟩ k
  cases da
  exact ⟨a, vs, rfl, rfl, e, k _ _ _ _ q .nil .non⟩
def mReverse (ts as : List T) (P : List T → T → Prop) : Prop := as = [] ∧ P ts.reverse .non
theorem ms_reverse : MutS rReverse mReverse := by
  rintro av H a vs ts xs as Q P e d da ⟨rfl, q⟩ k
  cases da
  exact ⟨a, vs, rfl, rfl, e, k _ _ _ _ q d.rev .non⟩
def mExtend (ts as : List T) (P : List T → T → Prop) : Prop := ∃ us, as = [.lst us] ∧ ts.length + us.length ≤ 16777216 ∧ P (ts ++ us) .non
theorem ms_extend : MutS rExtend mExtend := by
  rintro av H a vs ts xs as Q P e d da ⟨us, rfl, l, q⟩ k
  cases da with
  | cons dx dn =>
    cases dn
    cases dx with
    | lst na e2 d2 => exact ⟨a, _, vs, _, rfl, rfl, e, e2, by rw [d.len, d2.len, sizeLine_eq]; exact l, k _ _ _ _ q (d.app d2) .non⟩
/-! d[k] = v, xs[i] = v -/
def dputT : T → T → T → Option T
  | .dic kt, y, t => match tkey y with
    | some k => some (.dic (putT kt k t))
    | none => none
  | .dit kt, .tup ts, t => match tkeys ts with
    | some k => some (.dit (putT kt k t))
    | none => none
  | _, _, _ => none
def sizeT : T → Nat
  | .dic kt => kt.length
  | .dit kt => kt.length
  | _ => 0
def lDPut (ld ly lv : LE) : LS := fun L ρ => lv ρ fun pv ρ1 => ld ρ1 fun pd ρ2 => ly ρ2 fun pk ρ3 => ∃ i t ρ4 y s s', pd = .al i ∧ frz ρ3 pv = some (t, ρ4) ∧ val ρ4 pk = some y ∧ ρ4[i]? = some (some (.ow s)) ∧ dputT s y t = some s' ∧ sizeT s < 16777216 ∧ L.nx (ρ4.set i (some (.ow s')))
theorem len_fst {κ : Type} {ks : List (κ × V)} {kt : List (κ × T)} (e : ks.map Prod.fst = kt.map Prod.fst) : ks.length = kt.length := by
  have := congrArg List.length e
  simpa using this
theorem sn_dput (hd : Snd G td ld) (hy : Snd G ty ly) (hv : Snd G tv lv) : SndS G S (sDPut td ty tv) (lDPut ld ly lv) := by
  intro D L ρ σ H n r e q
  refine hv ρ σ S H _ _ r q fun pv ρ1 v H1 q1 R1 => ?_
  refine hd ρ1 σ _ H1 _ _ R1 q1 fun pd ρ2 x H2 q2 R2 => ?_
  refine hy ρ2 σ _ H2 _ _ R2 q2 fun pk ρ3 y H3 q3 R3 => ?_
  obtain ⟨i, t, ρ4, y', s, s', rfl, e1, e2, e3, e4, l, q3⟩ := q3
  obtain ⟨w, R4⟩ := R.frzAt (A := [(y, pk), (x, .al i)]) R3 e1
  have R4' : RO G w ρ4 σ ((y, pk) :: (x, .al i) :: (v, .sh t) :: S) H3 := R4
  have ky := R4'.rk R4'.top e2
  have hx : σ[i]? = some (some x) := R4'.stk.2.1
  have dv : Dn (G.av w) H3 v t := R4'.stk.2.2.1
  obtain ⟨x', hx', a, F, rfl, o, f⟩ := R4'.at_slot e3
  rw [hx] at hx'; cases hx'
  have R5 := R4'.pop.pop.pop
  cases s with
  | dic kt =>
    obtain ⟨rfl, ks, ea, k1, d⟩ := o
    have fa := f a List.mem_cons_self
    have ava : G.av w a := .inr ⟨_, fa⟩
    cases h1 : tkey y' with
    | none => simp only [dputT, h1] at e4; cases e4
    | some k =>
      simp only [dputT, h1] at e4
      cases e4
      obtain rfl := key_of ky h1
      exact ⟨a, _, rfl, DPut.k ea (by rw [len_fst k1, sizeLine_eq]; exact l), e.nx _ _ _ ⟨w, R5.upd_lst (t := .dic (putT kt k t)) hx fa (fun _ z => by cases z) ⟨rfl, _, upd_same, put_fst k1, (put_dns dv k1 d).upd' ava⟩⟩ q3⟩
  | dit kt =>
    obtain ⟨rfl, ks, ea, k1, d⟩ := o
    have fa := f a List.mem_cons_self
    have ava : G.av w a := .inr ⟨_, fa⟩
    cases y' with
    | tup ts =>
      obtain ⟨b, vs, rfl, e5, d2⟩ := ky.tup
      cases h1 : tkeys ts with
      | none => simp only [dputT, h1] at e4; cases e4
      | some k =>
        simp only [dputT, h1] at e4
        cases e4
        obtain rfl := keys_of d2 h1
        exact ⟨a, _, rfl, DPut.t ea e5 (by rw [len_fst k1, sizeLine_eq]; exact l), e.nx _ _ _ ⟨w, R5.upd_lst (t := .dit (putT kt k t)) hx fa (fun _ z => by cases z) ⟨rfl, _, upd_same, put_fst k1, (put_dns dv k1 d).upd' ava⟩⟩ q3⟩
    | _ => cases e4
  | _ => cases e4
def lSetL (lo li le : LE) : LS := fun L ρ => le ρ fun pv ρ1 => ∃ t ρ2, frz ρ1 pv = some (t, ρ2) ∧ lo ρ2 fun po ρ3 => li ρ3 fun pi ρ4 => ∃ i k j ts, po = .al i ∧ val ρ4 pi = some (.int k) ∧ ρ4[i]? = some (some (.ow (.lst ts))) ∧ ixN ts.length k = some j ∧ L.nx (ρ4.set i (some (.ow (.lst (ts.set j t)))))
theorem sn_setL {to ti : TE} {lo li : LE} (ho : Snd G to lo) (hi : Snd G ti li) (h : Snd G te le) : SndS G S (tAsg te (gSub to ti rSetL)) (lSetL lo li le) := by
  intro D L ρ σ H n r e q
  refine h ρ σ S H _ _ r q fun pv ρ1 v H1 q1 R1 => ?_
  obtain ⟨t, ρ2, e1, q1⟩ := q1
  refine ho ρ2 σ _ H1 _ _ (R1.frz e1) q1 fun po ρ3 x H2 q2 R2 => ?_
  refine hi ρ3 σ _ H2 _ _ R2 q2 fun pi ρ4 y H3 q3 R3 => ?_
  obtain ⟨i, k, j, ts, rfl, e2, e3, e4, q3⟩ := q3
  obtain ⟨w, R3⟩ := R3
  obtain rfl := (R3.rk R3.top e2).int
  have hx : σ[i]? = some (some x) := R3.stk.2.1
  have dv : Dn (G.av w) H3 v t := R3.stk.2.2.1
  obtain ⟨x', hx', a, F, rfl, ⟨rfl, vs, ea, d⟩, f⟩ := R3.at_slot e3
  rw [hx] at hx'; cases hx'
  have fa := f a List.mem_cons_self
  have ava : G.av w a := .inr ⟨_, fa⟩
  exact ⟨a, vs, k, j, rfl, rfl, ea, by rw [d.len]; exact e4, e.nx _ _ _ ⟨w, R3.pop.pop.pop.upd_lst (t := .lst (ts.set j t)) hx fa (fun _ z => by cases z) ⟨rfl, _, upd_same, (d.set dv j).upd' ava⟩⟩ q3⟩
/-- i += e of numbers, texts -/
def lAug (i : Nat) (lr : T → T → (PV → Prop) → Prop) (le : LE) : LS := fun L ρ => (∃ s0, ρ[i]? = some (some (.sh s0))) ∧ le ρ fun p ρ1 => ∃ s t, ρ1[i]? = some (some (.sh s)) ∧ val ρ1 p = some t ∧ lr s t fun r => ∃ u, r = .sh u ∧ L.nx (ρ1.set i (some (.sh u)))
theorem sn_aug {i : Nat} {ti : TIp} {lr : T → T → (PV → Prop) → Prop} (ho : OpS ti lr) (h : Snd G te le) : SndS G S (tAug i te ti) (lAug i lr le) := by
  intro D L ρ σ H n r e q
  obtain ⟨⟨s0, hs⟩, q⟩ := q
  obtain ⟨w0, r0⟩ := id r
  obtain ⟨x, hx, _⟩ := r0.at_slot hs
  refine ⟨x, hx, h ρ σ S H _ _ r q fun p ρ1 y H1 q1 R1 => ?_⟩
  obtain ⟨s, t, e1, e2, q1⟩ := q1
  obtain ⟨w, R1⟩ := R1
  obtain ⟨x', hx', d⟩ := R1.at_slot e1
  rw [hx] at hx'; cases hx'
  refine ho (G.av w) H1 x y s t _ _ R1.live (.inl d) (R1.rk R1.top e2) q1 fun u z H2 q2 nw => ?_
  obtain ⟨u, rfl, q2⟩ := q2
  have z := R1.pop.res nw
  exact e.nx _ _ _ (z.store i (n.at i) fun j z => by cases z) q2
/-! loops -/
abbrev LI := Env → (List T → Env → Prop) → Prop
/-- J goes over ts as long as what is held stays -/
structure ItOk (J : It) (ts : List T) (S' : Stk) : Prop where
  sh : ∀ q ∈ S', ∃ v t, q = (v, PV.sh t)
  stop : ∀ (G : Gh) (ρ : Env) (σ : St) (A S : Stk) (H : Hp), R G ρ σ (A ++ (S' ++ S)) H → J.stop ts.length H
  go : ∀ (G : Gh) (ρ : Env) (σ : St) (A S : Stk) (H : Hp) (i : Nat), i < ts.length → R G ρ σ (A ++ (S' ++ S)) H → J.go i H
  yld : ∀ (G : Gh) (ρ : Env) (σ : St) (A S : Stk) (H : Hp) (i : Nat) (t : T) (x : V) (H' : Hp), ts[i]? = some t → R G ρ σ (A ++ (S' ++ S)) H → J.yld i H x H' → R G ρ σ ((x, .sh t) :: (A ++ (S' ++ S))) H'
def SndI (G : Gh) (wi : TI) (li : LI) : Prop := ∀ (ρ : Env) (σ : St) (S : Stk) (H : Hp) (Q : It → Hp → Prop) (P : List T → Env → Prop), R G ρ σ S H → li ρ P →
  (∀ ts ρ' S' J H', P ts ρ' → R G ρ' σ (S' ++ S) H' → ItOk J ts S' → Q J H') → wi σ H Q
def lList (le : LE) : LI := fun ρ P => le ρ fun p ρ1 => ∃ ts ρ2, frz ρ1 p = some (.lst ts, ρ2) ∧ P ts ρ2
theorem R.mid {G : Gh} {ρ : Env} {σ : St} {A S : Stk} {v : V} {t : T} {H : Hp} (r : R G ρ σ (A ++ ([(v, .sh t)] ++ S)) H) : ∃ w, RO G w ρ σ (A ++ ([(v, .sh t)] ++ S)) H ∧ Dn (G.av w) H v t := by
  obtain ⟨w, r⟩ := r
  exact ⟨w, r, StkAt.get (A := A) (p := .sh t) r.stk⟩
theorem itok_list {a : Addr} {ts : List T} : ItOk (Itl K a) ts [(.ref a, .sh (.lst ts))] where
  sh := fun q m => ⟨_, _, List.mem_singleton.mp m⟩
  stop := fun G ρ σ A S H r => by
    obtain ⟨w, r, d⟩ := r.mid
    cases d with | lst n e d => exact ⟨_, SqL.of e, by rw [d.len]; exact Nat.le_refl _⟩
  go := fun G ρ σ A S H i hi r => by
    obtain ⟨w, r, d⟩ := r.mid
    cases d with | lst n e d => exact ⟨_, _, SqL.of e, List.getElem?_eq_getElem (by rw [d.len]; exact hi)⟩
  yld := fun G ρ σ A S H i t x H' ht r y => by
    obtain ⟨w, r, d⟩ := r.mid
    cases d with
    | lst n e d =>
      obtain ⟨rfl, h⟩ := y
      obtain ⟨v, hv, dv⟩ := d.get' ht
      have := h _ (SqL.of e)
      rw [hv] at this; cases this
      exact ⟨w, r.push dv⟩
theorem sni_list (h : Snd G te le) : SndI G (iList K te) (lList le) := by
  intro ρ σ S H Q P r q k
  refine h ρ σ S H _ _ r q fun p ρ1 v H1 q1 R1 => ?_
  obtain ⟨ts, ρ2, e, q1⟩ := q1
  have R2 := R1.frz e
  obtain ⟨w, R2'⟩ := id R2
  have d : Dn (G.av w) H1 v (.lst ts) := R2'.top
  cases d with
  | lst n e1 d => exact ⟨_, rfl, ⟨_, SqL.of e1⟩, k ts ρ2 [(_, .sh (.lst ts))] _ _ q1 R2 itok_list⟩
def lTupI (le : LE) : LI := fun ρ P => le ρ fun p ρ1 => ∃ ts ρ2, frz ρ1 p = some (.tup ts, ρ2) ∧ P ts ρ2
theorem itok_tup {a : Addr} {ts : List T} : ItOk (Itt K a) ts [(.ref a, .sh (.tup ts))] where
  sh := fun q m => ⟨_, _, List.mem_singleton.mp m⟩
  stop := fun G ρ σ A S H r => by
    obtain ⟨w, r, d⟩ := r.mid
    cases d with | tup n e d => exact ⟨_, SqT.of e, by rw [d.len]; exact Nat.le_refl _⟩
  go := fun G ρ σ A S H i hi r => by
    obtain ⟨w, r, d⟩ := r.mid
    cases d with | tup n e d => exact ⟨_, _, SqT.of e, List.getElem?_eq_getElem (by rw [d.len]; exact hi)⟩
  yld := fun G ρ σ A S H i t x H' ht r y => by
    obtain ⟨w, r, d⟩ := r.mid
    cases d with
    | tup n e d =>
      obtain ⟨rfl, h⟩ := y
      obtain ⟨v, hv, dv⟩ := d.get' ht
      have := h _ (SqT.of e)
      rw [hv] at this; cases this
      exact ⟨w, r.push dv⟩
theorem sni_tup (h : Snd G te le) : SndI G (iTup K te) (lTupI le) := by
  intro ρ σ S H Q P r q k
  refine h ρ σ S H _ _ r q fun p ρ1 v H1 q1 R1 => ?_
  obtain ⟨ts, ρ2, e, q1⟩ := q1
  have R2 := R1.frz e
  obtain ⟨w, R2'⟩ := id R2
  have d : Dn (G.av w) H1 v (.tup ts) := R2'.top
  cases d with
  | tup n e1 d => exact ⟨_, rfl, ⟨_, SqT.of e1⟩, k ts ρ2 [(_, .sh (.tup ts))] _ _ q1 R2 itok_tup⟩
/-- a list or a tuple -/
def sqT : T → Option (List T)
  | .lst ts => some ts
  | .tup ts => some ts
  | _ => none
def lSq (le : LE) : LI := fun ρ P => le ρ fun p ρ1 => ∃ t ts ρ2, frz ρ1 p = some (t, ρ2) ∧ sqT t = some ts ∧ P ts ρ2
theorem sni_sq (h : Snd G te le) : SndI G (iSq K te) (lSq le) := by
  intro ρ σ S H Q P r q k
  refine h ρ σ S H _ _ r q fun p ρ1 v H1 q1 R1 => ?_
  obtain ⟨t, ts, ρ2, e, es, q1⟩ := q1
  have R2 := R1.frz e
  obtain ⟨w, R2'⟩ := id R2
  cases t with
  | lst us =>
    cases es
    have d : Dn (G.av w) H1 v (.lst ts) := R2'.top
    cases d with
    | lst n e1 d => exact .inl ⟨_, rfl, ⟨_, SqL.of e1⟩, k ts ρ2 [(_, .sh (.lst ts))] _ _ q1 R2 itok_list⟩
  | tup us =>
    cases es
    have d : Dn (G.av w) H1 v (.tup ts) := R2'.top
    cases d with
    | tup n e1 d => exact .inr ⟨_, rfl, ⟨_, SqT.of e1⟩, k ts ρ2 [(_, .sh (.tup ts))] _ _ q1 R2 itok_tup⟩
  | _ => cases es
/-- lo, lo + 1, .., n of them -/
def rngT (lo : Int) (n : Nat) : List T := (List.range n).map fun (i : Nat) => T.int (lo + (i : Int))
theorem rngT_len (lo : Int) (n : Nat) : (rngT lo n).length = n := by simp [rngT]
theorem rngT_get {lo : Int} {n i : Nat} {t : T} (h : (rngT lo n)[i]? = some t) : t = .int (lo + (i : Int)) ∧ i < n := by
  unfold rngT at h
  rw [List.getElem?_map] at h
  cases e : (List.range n)[i]? with
  | none => rw [e] at h; cases h
  | some j =>
    rw [e] at h
    obtain ⟨h1, h2⟩ := List.getElem?_eq_some_iff.mp e
    simp at h1 h2
    subst h2
    cases h
    exact ⟨rfl, h1⟩
theorem itok_rng {lo : Int} {n : Nat} : ItOk (Itr lo n) (rngT lo n) [] where
  sh := fun q m => by cases m
  stop := fun G ρ σ A S H r => by show n ≤ _; rw [rngT_len]; exact Nat.le_refl _
  go := fun G ρ σ A S H i hi r => by show i < n; rwa [rngT_len] at hi
  yld := fun G ρ σ A S H i t x H' ht r y => by
    obtain ⟨rfl, h2⟩ := y
    subst h2
    obtain ⟨rfl, _⟩ := rngT_get ht
    exact r.leaf fun _ _ => .int _
def lRng1 (la : LA) : LI := fun ρ P => la ρ fun ps ρ1 => ∃ j : Int, vals ρ1 ps = some [.int j] ∧ -(2 ^ 62) ≤ j ∧ j < 2 ^ 62 ∧ P (rngT 0 j.toNat) ρ1
theorem Rks.ints1 {av : Addr → Prop} {H : Hp} {xs : List V} {i : Int} (h : Rks av H xs [.int i]) : xs = [.int i] := by
  cases h with | cons a b => cases b; rw [a.int]
theorem Rks.ints2 {av : Addr → Prop} {H : Hp} {xs : List V} {i j : Int} (h : Rks av H xs [.int i, .int j]) : xs = [.int i, .int j] := by
  cases h with | cons a b => cases b with | cons b c => cases c; rw [a.int, b.int]
theorem sni_rng1 {t : TA} {l : LA} (h : SndA G t l) : SndI G (iRng1 t) (lRng1 l) := by
  intro ρ σ S H Q P r q k
  refine h ρ σ S H _ _ r q fun ps ρ1 vs H1 q1 hl R1 => ?_
  obtain ⟨j, e, b1, b2, q1⟩ := q1
  obtain ⟨w, R1⟩ := R1
  obtain rfl := (R1.rks hl e).ints1
  exact ⟨j, rfl, b1, b2, k _ _ [] _ _ q1 ⟨w, R1.unpsh⟩ itok_rng⟩
def lRng2 (la : LA) : LI := fun ρ P => la ρ fun ps ρ1 => ∃ i j : Int, vals ρ1 ps = some [.int i, .int j] ∧ (-(2 ^ 62) ≤ i ∧ i < 2 ^ 62 ∧ -(2 ^ 62) ≤ j ∧ j < 2 ^ 62) ∧ P (rngT i (j - i).toNat) ρ1
theorem sni_rng2 {t : TA} {l : LA} (h : SndA G t l) : SndI G (iRng2 t) (lRng2 l) := by
  intro ρ σ S H Q P r q k
  refine h ρ σ S H _ _ r q fun ps ρ1 vs H1 q1 hl R1 => ?_
  obtain ⟨i, j, e, b, q1⟩ := q1
  obtain ⟨w, R1⟩ := R1
  obtain rfl := (R1.rks hl e).ints2
  exact ⟨i, j, rfl, b, k _ _ [] _ _ q1 ⟨w, R1.unpsh⟩ itok_rng⟩
/-- the signs of a text -/
def sgnT (z : Str) : List T := z.cps.toList.map fun c => T.str ⟨#[c]⟩
theorem itok_str {z : Str} : ItOk (Its z) (sgnT z) [] where
  sh := fun q m => by cases m
  stop := fun G ρ σ A S H r => by show z.cps.size ≤ _; simp [sgnT]
  go := fun G ρ σ A S H i hi r => by show i < z.cps.size; simpa [sgnT] using hi
  yld := fun G ρ σ A S H i t x H' ht r y => by
    obtain ⟨rfl, c, hc, rfl⟩ := y
    have : t = .str ⟨#[c]⟩ := by
      unfold sgnT at ht
      rw [List.getElem?_map, Array.getElem?_toList, hc] at ht
      exact (Option.some.inj ht).symm
    subst this
    exact r.leaf fun _ _ => .str _
def lStrI (le : LE) : LI := fun ρ P => le ρ fun p ρ1 => ∃ z, val ρ1 p = some (.str z) ∧ P (sgnT z) ρ1
theorem sni_str (h : Snd G te le) : SndI G (iStr te) (lStrI le) := by
  intro ρ σ S H Q P r q k
  refine h ρ σ S H _ _ r q fun p ρ1 v H1 q1 R1 => ?_
  obtain ⟨z, e, q1⟩ := q1
  obtain ⟨w, R1⟩ := R1
  obtain rfl := (R1.rk R1.top e).str
  exact ⟨z, rfl, k _ _ [] _ _ q1 ⟨w, R1.pop⟩ itok_str⟩
/-- enumerate of a list -/
def enumT (ts : List T) : List T := ts.mapIdx fun i t => T.tup [.int i, t]
theorem itok_enum {a : Addr} {ts : List T} : ItOk (Ite K a) (enumT ts) [(.ref a, .sh (.lst ts))] where
  sh := fun q m => ⟨_, _, List.mem_singleton.mp m⟩
  stop := fun G ρ σ A S H r => by
    obtain ⟨w, r, d⟩ := r.mid
    cases d with | lst n e d => exact ⟨_, SqL.of e, by rw [d.len]; simp [enumT]⟩
  go := fun G ρ σ A S H i hi r => by
    obtain ⟨w, r, d⟩ := r.mid
    cases d with | lst n e d => exact ⟨_, _, SqL.of e, List.getElem?_eq_getElem (by rw [d.len]; simpa [enumT] using hi)⟩
  yld := fun G ρ σ A S H i t x H' ht r y => by
    obtain ⟨w, r, d⟩ := r.mid
    cases d with
    | lst n e d =>
      obtain ⟨TT, y, rfl, hT, rfl, h⟩ := y
      unfold enumT at ht
      rw [List.getElem?_mapIdx] at ht
      cases e2 : ts[i]? with
      | none => rw [e2] at ht; cases ht
      | some u =>
        rw [e2] at ht
        cases ht
        obtain ⟨v, hv, dv⟩ := d.get' e2
        have := h _ (SqL.of e)
        rw [hv] at this; cases this
        refine r.res (Nw.tup hT (fun z => ?_) (.cons (.int _) (.cons dv .nil)))
        obtain ⟨o, e', _⟩ := r.live TT z
        rw [hT] at e'; cases e'
def lEnumI (la : LA) : LI := fun ρ P => la ρ fun ps ρ1 => ∃ ts ρ2, frzs ρ1 ps = some ([.lst ts], ρ2) ∧ P (enumT ts) ρ2
theorem sni_enum {t : TA} {l : LA} (h : SndA G t l) : SndI G (iEnum K t) (lEnumI l) := by
  intro ρ σ S H Q P r q k
  refine h ρ σ S H _ _ r q fun ps ρ1 vs H1 q1 hl R1 => ?_
  obtain ⟨ts, ρ2, e, q1⟩ := q1
  obtain ⟨R2, hl2⟩ := R.frzs R1 hl e
  match vs, hl2 with
  | [v], _ =>
    have R2' : R G ρ2 σ ([(v, .sh (.lst ts))] ++ S) H1 := R2
    obtain ⟨w, R3, d⟩ := R.mid (A := []) R2'
    cases d with
    | lst n e1 d => exact ⟨_, _, rfl, SqL.of e1, k _ ρ2 [(_, .sh (.lst ts))] _ _ q1 R2' itok_enum⟩
def lFor (li : LI) (lg : LG) (lb : LS) : LS := fun L ρ => li ρ fun ts ρ1 => ∃ I : Nat → Env → Prop, I 0 ρ1 ∧
  (∀ k t ρ2, ts[k]? = some t → I k ρ2 → lg t ρ2 fun ρ3 => lb { L with nx := I (k + 1), ct := I (k + 1), bk := L.nx } ρ3) ∧ ∀ ρ2, I ts.length ρ2 → L.nx ρ2
theorem sn_for {wi : TI} {li : LI} {tg : TG} {lg : LG} {tb : TS} {lb : LS} {is : List Nat} (hi : SndI G wi li) (hg : SndG G tg lg is) (hb : ∀ S, SndS G S tb lb) : SndS G S (tFor wi tg tb) (lFor li lg lb) := by
  intro D L ρ σ H n r e q
  refine hi ρ σ S H _ _ r q fun ts ρ1 S' J H1 q1 R1 ok => ?_
  obtain ⟨I, i0, turn, fin⟩ := q1
  have nS : NoAl (S' ++ S) := n.app ok.sh
  refine ⟨fun i m σ H => ∃ ρ, R G ρ σ (S' ++ S) H ∧ I i ρ ∧ i ≤ ts.length ∧ m = ts.length - i, ⟨_, ρ1, R1, i0, Nat.zero_le _, rfl⟩, ?_⟩
  rintro i m σ2 H2 ⟨ρ2, R2, hI, hi, rfl⟩
  rcases Nat.lt_or_eq_of_le hi with c | c
  · refine .inr ⟨ok.go G ρ2 σ2 [] S H2 i c R2, fun σ' H' => ∃ ρ', R G ρ' σ' (S' ++ S) H' ∧ I (i + 1) ρ', ?_, ?_⟩
    · rintro σ' H' ⟨ρ', R', hI'⟩
      exact ⟨ts.length - (i + 1), by omega, ρ', R', hI', by omega, rfl⟩
    · intro x H' y
      have ht := List.getElem?_eq_getElem c
      have R3 := ok.yld G ρ2 σ2 [] S H2 i _ x H' ht R2 y
      refine hg (S' ++ S) ρ2 σ2 H' x _ _ _ (nS.ok is) R3 (turn i _ ρ2 ht hI) fun ρ4 σ4 H4 q4 R4 => ?_
      refine hb (S' ++ S) _ { L with nx := I (i + 1), ct := I (i + 1), bk := L.nx } ρ4 σ4 H4 nS R4 ⟨fun ρ σ H r q => ⟨ρ, r, q⟩, fun ρ σ H r q => e.nx _ _ _ (r.drop) q, fun ρ σ H r q => ⟨ρ, r, q⟩, fun p ρ σ v H r q => ?_⟩ q4
      exact e.rt _ _ _ _ _ r.under q
  · subst c
    exact .inl ⟨ok.stop G ρ2 σ2 [] S H2 R2, e.nx _ _ _ R2.drop (fin ρ2 hI)⟩
end
end LP
end
section
set_option maxRecDepth 100000
set_option maxHeartbeats 4000000
namespace LP
open PySem L2 LH
/-! ### while -/
def lWhile (c : LT) (lb : LS) : LS := fun L ρ => ∃ W : Nat → Env → Prop, (∃ m, W m ρ) ∧ ∀ m ρ1, W m ρ1 → c ρ1 fun b ρ2 => if b = true then lb { L with nx := fun ρ' => ∃ m', m' < m ∧ W m' ρ', ct := fun ρ' => ∃ m', m' < m ∧ W m' ρ', bk := L.nx } ρ2 else L.nx ρ2
theorem sn_while {c : TT} {lc : LT} {tb : TS} {lb : LS} (hc : SndT G c lc) (hb : SndS G S tb lb) : SndS G S (tWhile c tb) (lWhile lc lb) := by
  intro D L ρ σ H n r e q
  obtain ⟨W, ⟨m0, w0⟩, turn⟩ := q
  refine ⟨fun m σ H => ∃ ρ, R G ρ σ S H ∧ W m ρ, ⟨m0, ρ, r, w0⟩, ?_⟩
  rintro m σ1 H1 ⟨ρ1, R1, w1⟩
  refine hc ρ1 σ1 S H1 _ _ R1 (turn m ρ1 w1) fun b ρ2 H2 q2 R2 => ?_
  cases b with
  | false => exact e.nx _ _ _ R2 q2
  | true =>
    refine ⟨fun σ' H' => ∃ ρ', R G ρ' σ' S H' ∧ ∃ m', m' < m ∧ W m' ρ', ?_, ?_⟩
    · rintro σ' H' ⟨ρ', R', m', lt, w'⟩
      exact ⟨m', lt, ρ', R', w'⟩
    · exact hb _ { L with nx := fun ρ' => ∃ m', m' < m ∧ W m' ρ', ct := fun ρ' => ∃ m', m' < m ∧ W m' ρ', bk := L.nx } ρ2 σ1 H2 n R2 ⟨fun ρ σ H r q => ⟨ρ, r, q⟩, fun ρ σ H r q => e.nx _ _ _ r q, fun ρ σ H r q => ⟨ρ, r, q⟩, e.rt⟩ q2
/-! ### slots hidden for a comprehension -/
def wipeE (ρ : Env) : List Nat → Env
  | [] => ρ
  | v :: vs => (wipeE ρ vs).set v none
def hok (ρ : Env) : List Nat → Bool
  | [] => true
  | v :: vs => (match ρ[v]? with
    | some (some (.ow _)) => false
    | some (some (.fz _)) => false
    | some (some (.io _)) => false
    | _ => true) && hok ρ vs
theorem wipeE_len (ρ : Env) : ∀ vs, (wipeE ρ vs).length = ρ.length
  | [] => rfl
  | v :: vs => by unfold wipeE; rw [List.length_set, wipeE_len ρ vs]
theorem wipeE_some {ρ : Env} {i : Nat} {p : PV} : ∀ {vs : List Nat}, (wipeE ρ vs)[i]? = some (some p) → ρ[i]? = some (some p) ∧ i ∉ vs
  | [], h => ⟨h, by simp⟩
  | v :: vs, h => by
    unfold wipeE at h
    by_cases c : v = i
    · subst c
      by_cases hl : v < (wipeE ρ vs).length
      · rw [List.getElem?_set_self hl] at h; cases h
      · rw [List.getElem?_eq_none (by simp; omega)] at h; cases h
    · rw [List.getElem?_set_ne c] at h
      obtain ⟨h1, h2⟩ := wipeE_some h
      exact ⟨h1, fun m => (List.mem_cons.mp m).elim (fun e => c e.symm) h2⟩
theorem wipeE_out {ρ : Env} {i : Nat} : ∀ {vs : List Nat}, i ∉ vs → (wipeE ρ vs)[i]? = ρ[i]?
  | [], _ => rfl
  | v :: vs, h => by
    unfold wipeE
    rw [List.getElem?_set_ne (fun e => h (by rw [e]; exact List.mem_cons_self)), wipeE_out fun m => h (List.mem_cons_of_mem _ m)]
theorem wipeE_in {ρ : Env} {i : Nat} {p : PV} {vs : List Nat} (h : i ∈ vs) : (wipeE ρ vs)[i]? ≠ some (some p) := fun e => (wipeE_some e).2 h
theorem hok_not {ρ : Env} {i : Nat} : ∀ {vs : List Nat}, hok ρ vs = true → i ∈ vs → ∀ t, ρ[i]? ≠ some (some (.ow t)) ∧ ρ[i]? ≠ some (some (.fz t)) ∧ ρ[i]? ≠ some (some (.io t))
  | v :: vs, h, m, t => by
    unfold hok at h
    rw [Bool.and_eq_true] at h
    rcases List.mem_cons.mp m with e | m
    · subst e
      refine ⟨?_, ?_, ?_⟩ <;> (intro z; rw [z] at h; simp at h)
    · exact hok_not h.2 m t
theorem wipe_wipe {σ : St} : ∀ vs : List Nat, wipe (wipe σ vs) vs = wipe σ vs := fun vs => by
  apply List.ext_getElem?
  intro i
  by_cases c : i ∈ vs
  · have z : ∀ {τ : St} {ws : List Nat}, i ∈ ws → (wipe τ ws)[i]? = if i < τ.length then some none else none := by
      intro τ ws
      induction ws with
      | nil => intro m; cases m
      | cons v ws ih =>
        intro m
        unfold wipe
        by_cases e : v = i
        · subst e
          by_cases hl : v < τ.length
          · rw [List.getElem?_set_self (by rw [wipe_length]; exact hl), if_pos hl]
          · rw [List.getElem?_eq_none (by simp [wipe_length]; omega), if_neg hl]
        · rw [List.getElem?_set_ne e]
          exact ih ((List.mem_cons.mp m).resolve_left fun z => e z.symm)
    rw [z c, z c, wipe_length]
  · rw [wipe_out c, wipe_out c]
section
variable {G : Gh} {w : Addr → Option Loc} {ρ ρ' : Env} {σ σ' : St} {S : Stk} {H H' : Hp}
/-- another store that says the same of the slots that are known -/
theorem R.resig (r : R G ρ σ S H) (l : σ'.length = σ.length) (h : ∀ (i : Nat) (p : PV), ρ[i]? = some (some p) → σ'[i]? = σ[i]?) : R G ρ σ' S H := by
  obtain ⟨w, r⟩ := r
  refine ⟨w, by rw [l]; exact r.len, fun i p x hp hx => r.slot i p x hp (by rw [← h i p hp]; exact hx), r.stk.up (fun v j m => ?_) (fun _ z => .inl z) (fun _ _ _ z => z), r.own, r.frame, r.avs, r.als⟩
  obtain ⟨t, z⟩ := r.als v j m
  rcases z with z | z | z <;> exact h _ _ z
theorem R.hide (r : R G ρ σ S H) {vs : List Nat} (h : hok ρ vs = true) : R G (wipeE ρ vs) (wipe σ vs) S H := by
  have r1 : R G (wipeE ρ vs) σ S H := by
    obtain ⟨w, r⟩ := r
    refine ⟨w, by rw [wipeE_len]; exact r.len, fun i p x hp hx => r.slot i p x (wipeE_some hp).1 hx, r.stk, r.own, r.frame, r.avs, fun v j m => ?_⟩
    obtain ⟨t, z⟩ := r.als v j m
    have nj : j ∉ vs := fun m => by
      have := hok_not h m t
      rcases z with z | z | z
      · exact this.1 z
      · exact this.2.1 z
      · exact this.2.2 z
    exact ⟨t, by rw [wipeE_out nj]; exact z⟩
  refine r1.resig (wipe_length _ _) fun i p hp => wipe_out (wipeE_some hp).2
theorem R.unhide {vs : List Nat} (r : R G (wipeE ρ vs) (wipe σ vs) S H) : R G (wipeE ρ vs) σ S H :=
  r.resig (wipe_length _ _).symm fun i p hp => (wipe_out (wipeE_some hp).2).symm
theorem RO.changeTop {a : Addr} {t t' : T} {F : List Addr} (r : RO G w ρ σ ((.ref a, .ow t) :: S) H) (fr : ∀ b o, w b ≠ some (.pn S.length) → H b = some o → H' b = some o)
    (o : Own (G.av w) H' a t' F) (hF : ∀ b ∈ F, w b = some (.pn S.length)) (lv : ∀ b, w b = some (.pn S.length) → Liv H' b) : RO G w ρ σ ((.ref a, .ow t') :: S) H' := by
  have nn : ∀ b, ¬ G.av w b → w b ≠ some (.pn S.length) := fun b n z => n (.inr ⟨_, z⟩)
  refine ⟨r.len, fun k p y hp hy => ?_, ⟨⟨a, F, rfl, o, hF⟩, r.stk.2.fr fun b o z => fr b o (z.elim (nn b) fun ⟨j, hj, e⟩ z => by rw [e] at z; cases z; omega)⟩, fun b l e => ?_, fun b o n e => fr b o (fun z => ?_) (r.frame b o n e), r.avs, fun v j m => r.als v j ((List.mem_cons.mp m).elim (fun e => by cases e) fun m => List.mem_cons_of_mem _ m)⟩
  · obtain ⟨v, e, z⟩ := r.slot k p y hp hy
    exact ⟨v, e, z.fr fun b o z => fr b o (z.elim (nn b) fun e z => by rw [e] at z; cases z)⟩
  · obtain ⟨h1, h2, h3⟩ := r.own b l e
    by_cases c : w b = some (.pn S.length)
    · exact ⟨h1, h2, lv b c⟩
    · exact ⟨h1, h2, h3.same fun u => fr b u c⟩
  · rcases (r.own b _ z).2.1 with q | q
    · rw [q] at e; cases e
    · exact n q
theorem RO.updTop {a : Addr} {o : HO} {t t' : T} (r : RO G w ρ σ ((.ref a, .ow t) :: S) H) (ha : w a = some (.pn S.length)) (nt : ∀ xs, o ≠ .tup xs) (ow : Own (G.av w) (upd H a o) a t' [a]) : RO G w ρ σ ((.ref a, .ow t') :: S) (upd H a o) := by
  refine r.changeTop (fun b u nb e => ?_) ow (fun b hb => by rw [List.mem_singleton.mp hb]; exact ha) fun b e => ?_
  · rw [upd_ne (fun z => nb (by rw [z]; exact ha))]; exact e
  · obtain ⟨_, _, h⟩ := r.own b _ e
    by_cases c : b = a
    · exact ⟨o, by rw [c]; exact upd_same, nt⟩
    · exact h.same fun u q => by rw [upd_ne c]; exact q
end
/-- the target touches these slots alone -/
def GW (vs : List Nat) (tg : TG) : Prop := ∀ (v : V) (σ : St) (H : Hp) (Q Q' : St → Hp → Prop), (∀ σ2 H2, wipe σ2 vs = wipe σ vs → Q σ2 H2 → Q' σ2 H2) → tg v σ H Q → tg v σ H Q'
def GWs (vs : List Nat) (tg : TGs) : Prop := ∀ (v : List V) (σ : St) (H : Hp) (Q Q' : St → Hp → Prop), (∀ σ2 H2, wipe σ2 vs = wipe σ vs → Q σ2 H2 → Q' σ2 H2) → tg v σ H Q → tg v σ H Q'
theorem wipe_at {σ : St} {i : Nat} {vs : List Nat} (m : i ∈ vs) : (wipe σ vs)[i]? = if i < σ.length then some none else none := by
  induction vs with
  | nil => cases m
  | cons v ws ih =>
    unfold wipe
    by_cases e : v = i
    · subst e
      by_cases hl : v < σ.length
      · rw [List.getElem?_set_self (by rw [wipe_length]; exact hl), if_pos hl]
      · rw [List.getElem?_eq_none (by simp [wipe_length]; omega), if_neg hl]
    · rw [List.getElem?_set_ne e]
      exact ih ((List.mem_cons.mp m).resolve_left fun z => e z.symm)
theorem wipe_setIn {σ : St} {i : Nat} {x : Option V} {vs : List Nat} (m : i ∈ vs) : wipe (σ.set i x) vs = wipe σ vs := by
  apply List.ext_getElem?
  intro k
  by_cases c : k ∈ vs
  · rw [wipe_at c, wipe_at c, List.length_set]
  · rw [wipe_out c, wipe_out c, List.getElem?_set_ne (fun e => c (by rw [← e]; exact m))]
theorem gw_name {vs : List Nat} {i : Nat} (m : vs.elem i = true) : GW vs (gName i) := fun v σ H Q Q' f h => f _ _ (wipe_setIn (List.elem_iff.mp m)) h
theorem gw_nil {vs : List Nat} : GWs vs gNil := fun v σ H Q Q' f h => ⟨h.1, f _ _ rfl h.2⟩
theorem gw_cons {vs : List Nat} {t : TG} {u : TGs} (h1 : GW vs t) (h2 : GWs vs u) : GWs vs (gCons t u) := by
  rintro v σ H Q Q' f ⟨x, r, rfl, h⟩
  exact ⟨x, r, rfl, h1 x σ H _ _ (fun σ1 H1 e z => h2 r σ1 H1 _ _ (fun σ2 H2 e2 z2 => f σ2 H2 (e2.trans e) z2) z) h⟩
theorem gw_tup {K : PySem.W.Frag} {vs : List Nat} {k : Nat} {u : TGs} (h : GWs vs u) : GW vs (gTup K k u) := by
  rintro v σ H Q Q' f ⟨a, xs, e1, e2, e3, q⟩
  exact ⟨a, xs, e1, e2, e3, h xs σ H Q Q' f q⟩
/-! ### list comprehensions -/
def lLc (li : LI) (lg : LG) (lt : LT) (le : LE) (vs : List Nat) : LE := fun ρ Q => li ρ fun ts ρ1 => hok ρ1 vs = true ∧ ts.length ≤ 1000000 ∧ ∃ I : Nat → List T → Env → Prop, I 0 [] (wipeE ρ1 vs) ∧
  (∀ k acc t ρ2, ts[k]? = some t → acc.length ≤ k → I k acc ρ2 → lg t ρ2 fun ρ3 => lt ρ3 fun b ρ4 => if b = true then le ρ4 fun p ρ5 => ∃ u ρ6, frz ρ5 p = some (u, ρ6) ∧ hok ρ6 vs = true ∧ I (k + 1) (acc ++ [u]) (wipeE ρ6 vs)
    else hok ρ4 vs = true ∧ I (k + 1) acc (wipeE ρ4 vs)) ∧ ∀ acc ρ2, I ts.length acc ρ2 → Q (.ow (.lst acc)) ρ2
theorem als_ok {G : Gh} {ρ : Env} {σ : St} {S : Stk} {H : Hp} {vs is : List Nat} (r : R G (wipeE ρ vs) σ S H) (hs : is.all (fun i => vs.elem i) = true) : AlOk S is := fun i m v j k e => by
  obtain ⟨w, r⟩ := r
  obtain ⟨t, z⟩ := r.als v j k
  have mi : i ∈ vs := List.elem_iff.mp (List.all_eq_true.mp hs i m)
  rw [e] at z
  rcases z with z | z | z <;> exact wipeE_in mi z
theorem sn_lc {wi : TI} {li : LI} {tg : TG} {lg : LG} {tt : TT} {lt : LT} {te : TE} {le : LE} {vs is : List Nat} (hi : SndI G wi li) (hg : SndG G tg lg is) (hs : is.all (fun i => vs.elem i) = true) (gw : GW vs tg) (ht : SndT G tt lt) (he : Snd G te le) : Snd G (tLc wi tg tt te vs) (lLc li lg lt le vs) := by
  intro ρ σ S H Q P r q k
  refine hi ρ σ S H _ _ r q fun ts ρ1 S' J H1 q1 R1 ok => ?_
  obtain ⟨hk, hz, I, i0, turn, fin⟩ := q1
  intro Dl hD
  have RD : R G (wipeE ρ1 vs) (wipe σ vs) ((.ref Dl, .ow (.lst [])) :: (S' ++ S)) (upd H1 Dl (.lst [])) := by
    obtain ⟨w, R2⟩ := R1.hide hk
    exact R2.res (Nw.lst hD .nil)
  refine ⟨fun i m H => ∃ acc ρ0, R G (wipeE ρ0 vs) (wipe σ vs) ((.ref Dl, .ow (.lst acc)) :: (S' ++ S)) H ∧ I i acc (wipeE ρ0 vs) ∧ acc.length ≤ i ∧ i ≤ ts.length ∧ m = ts.length - i, ⟨_, [], ρ1, RD, i0, Nat.le_refl _, Nat.zero_le _, rfl⟩, ?_⟩
  rintro i m H2 ⟨acc, ρ0, R2, hI, hacc, hil, rfl⟩
  rcases Nat.lt_or_eq_of_le hil with c | c
  · refine .inr ⟨ok.go G _ (wipe σ vs) [(.ref Dl, .ow (.lst acc))] S H2 i c R2, fun H' => ∃ acc ρ0, R G (wipeE ρ0 vs) (wipe σ vs) ((.ref Dl, .ow (.lst acc)) :: (S' ++ S)) H' ∧ I (i + 1) acc (wipeE ρ0 vs) ∧ acc.length ≤ i + 1, ?_, ?_⟩
    · rintro H' ⟨acc', ρ', R', hI', ha'⟩
      exact ⟨ts.length - (i + 1), by omega, acc', ρ', R', hI', ha', by omega, rfl⟩
    · intro x H' y
      have htk := List.getElem?_eq_getElem c
      have R3 := ok.yld G _ (wipe σ vs) [(.ref Dl, .ow (.lst acc))] S H2 i _ x H' htk R2 y
      refine gw x (wipe σ vs) H' (fun σ2 H2 => wipe σ2 vs = wipe (wipe σ vs) vs → tt σ2 H2 fun b H3 => if b = true then te σ2 H3 fun y H4 => ∃ accV, H4 Dl = some (.lst accV) ∧ accV.length < sizeLine ∧ (∃ acc ρ0, R G (wipeE ρ0 vs) (wipe σ vs) ((.ref Dl, .ow (.lst acc)) :: (S' ++ S)) (upd H4 Dl (.lst (accV ++ [y]))) ∧ I (i + 1) acc (wipeE ρ0 vs) ∧ acc.length ≤ i + 1) else ∃ acc ρ0, R G (wipeE ρ0 vs) (wipe σ vs) ((.ref Dl, .ow (.lst acc)) :: (S' ++ S)) H3 ∧ I (i + 1) acc (wipeE ρ0 vs) ∧ acc.length ≤ i + 1) _ (fun σ3 H3 hw z => ⟨hw.trans (wipe_wipe vs), z hw⟩) ?_
      · refine hg ((.ref Dl, .ow (.lst acc)) :: (S' ++ S)) _ (wipe σ vs) H' x _ _ _ (als_ok R2 hs) R3 (turn i acc _ _ htk hacc hI) fun ρ3 σ3 H3 q3 R3 hw => ?_
        rw [wipe_wipe] at hw
        refine ht ρ3 σ3 _ H3 _ _ R3 q3 fun b ρ4 H4 q4 R4 => ?_
        cases b with
        | false =>
          obtain ⟨h1, h2⟩ := q4
          have R5 := R4.hide h1
          rw [hw] at R5
          exact ⟨acc, ρ4, R5, h2, by omega⟩
        | true =>
          refine he ρ4 σ3 _ H4 _ _ R4 q4 fun p ρ5 y H5 q5 R5 => ?_
          obtain ⟨u, ρ6, e6, h6, h7⟩ := q5
          have R6 := (R5.frz e6)
          have R7 := R6.hide h6
          rw [hw] at R7
          obtain ⟨w, R7⟩ := R7
          have dy : Dn (G.av w) H5 y u := R7.top
          obtain ⟨a, F, ea, ⟨rfl, accV, eA, dA⟩, f⟩ := R7.stk.2.1
          cases ea
          have fa := f Dl List.mem_cons_self
          have ava : G.av w Dl := .inr ⟨_, fa⟩
          refine ⟨accV, eA, by rw [dA.len, sizeLine_eq]; omega, acc ++ [u], ρ6, ⟨w, R7.pop.updTop (t' := .lst (acc ++ [u])) fa (fun _ z => by cases z) ⟨rfl, _, upd_same, (dA.app (.cons dy .nil)).upd' ava⟩⟩, h7, by simp; omega⟩
  · subst c
    refine .inl ⟨ok.stop G _ (wipe σ vs) [(.ref Dl, .ow (.lst acc))] S H2 R2, ?_⟩
    exact k _ _ _ _ (fin acc _ hI) R2.unhide.under
end LP
end
section
set_option maxRecDepth 100000
set_option maxHeartbeats 4000000
namespace LP
open PySem L2 LH
/-! ### defs over trees -/
/-- what a def promises: of its arguments, what it hands back (ours or not, the tree, the first argument behind), what it raises -/
abbrev LSp := List T → (PV → T → Prop) → (Addr → List (Str × T) → T → Prop) → Prop
def avF (AV : Addr → Prop) (F : List Addr) (a : Addr) : Prop := AV a ∨ a ∈ F
def ArgsAt (io : Bool) (av : Addr → Prop) (F : List Addr) (H : Hp) (vs : List V) (ts : List T) : Prop := match io with
  | false => F = [] ∧ Dns av H vs ts
  | true => ∃ a vs' t ts', vs = .ref a :: vs' ∧ ts = t :: ts' ∧ Own av H a t F ∧ Dns av H vs' ts'
def RetAt (io : Bool) (AV : Addr → Prop) (F : List Addr) (H H' : Hp) (vs : List V) (v : V) (p : PV) (t' : T) : Prop := ∃ FB : List Addr, (∀ c ∈ FB, H c = none ∧ Liv H' c) ∧
  (io = true → ∀ a vs', vs = .ref a :: vs' → Own (avF AV (F ++ FB)) H' a t' F) ∧ (match p with
    | .sh r => FB = [] ∧ Dn (avF AV F) H' v r
    | .ow r => ∃ b, v = .ref b ∧ Own (avF AV (F ++ FB)) H' b r FB
    | _ => False)
/-- what is raised: the fields of d, the exception's own dict -/
def ExcAt (io : Bool) (AV : Addr → Prop) (F : List Addr) (H H' : Hp) (vs : List V) (d : Addr) (fs : List (Str × T)) (t' : T) : Prop := ∃ fv, ¬ avF AV F d ∧ H' d = some (.xd fv) ∧ fv.map Prod.fst = fs.map Prod.fst ∧ Dns (avF AV F) H' (fv.map Prod.snd) (fs.map Prod.snd) ∧
  (io = true → ∀ a vs', vs = .ref a :: vs' → Own (avF AV F) H' a t' F)
def spL (io : Bool) (lsp : LSp) : Sp := fun vs H Q E => ∃ (AV : Addr → Prop) (F : List Addr) (ts : List T) (q : PV → T → Prop) (x : Addr → List (Str × T) → T → Prop),
  (∀ a, AV a → a ∉ F ∧ Liv H a) ∧ ArgsAt io (avF AV F) F H vs ts ∧ lsp ts q x ∧
  (∀ p t' v H', q p t' → (∀ b o, b ∉ F → H b = some o → H' b = some o) → RetAt io AV F H H' vs v p t' → Q v H') ∧
  ∀ C fs t' d H', x C fs t' → (∀ b o, b ∉ F → H b = some o → H' b = some o) → ExcAt io AV F H H' vs d fs t' → E (.ref C) (some d) H'
/-! the entry and the way out -/
def startT : Bool → List T → Env
  | true, t :: ts => some (.io t) :: ts.map fun t => some (.sh t)
  | _, ts => ts.map fun t => some (.sh t)
def startE (n : Nat) (io : Bool) (ts : List T) : Env := startT io ts ++ List.replicate (n - ts.length) none
def ioT (io : Bool) (ρ : Env) : Option T := match io with
  | false => some .non
  | true => match ρ[0]? with
    | some (some (PV.io t)) => some t
    | _ => none
def resT (ρ : Env) : PV → Option PV
  | .sh t => some (.sh t)
  | .fz t => some (.sh t)
  | .ow t => some (.ow t)
  | .io _ => none
  | .cx _ _ _ _ => none
  | .al i => match ρ[i]? with
    | some (some (PV.ow t)) => some (.ow t)
    | some (some (PV.fz t)) => some (.sh t)
    | _ => none
def kEnd (io : Bool) (q : PV → T → Prop) (p : PV) (ρ : Env) : Prop := ∃ t' r, ioT io ρ = some t' ∧ resT ρ p = some r ∧ q r t'
def endsL (io : Bool) (q : PV → T → Prop) : LEnds where
  nx := fun ρ => kEnd io q (.sh .non) ρ
  rt := fun p ρ => kEnd io q p ρ
theorem startT_len (io : Bool) (ts : List T) : (startT io ts).length = ts.length := by
  cases io <;> cases ts <;> simp [startT]
theorem start_at {N : List Str} {vs : List V} {i : Nat} {x : Option V} (h : (L2.start N vs)[i]? = some x) : (i < vs.length ∧ x = vs[i]?) ∨ (vs.length ≤ i ∧ x = none) := by
  unfold L2.start at h
  by_cases c : i < vs.length
  · refine .inl ⟨c, ?_⟩
    rw [List.getElem?_append_left (by simpa using c), List.getElem?_map] at h
    rw [List.getElem?_eq_getElem c] at h ⊢
    exact (Option.some.inj h).symm
  · refine .inr ⟨by omega, ?_⟩
    rw [List.getElem?_append_right (by simpa using Nat.le_of_not_lt c)] at h
    rw [List.getElem?_replicate] at h
    split at h
    · exact (Option.some.inj h).symm
    · cases h
theorem startE_at {n : Nat} {io : Bool} {ts : List T} {i : Nat} {p : PV} (h : (startE n io ts)[i]? = some (some p)) : i < ts.length ∧ ∃ t, ts[i]? = some t ∧ (p = .sh t ∨ (io = true ∧ i = 0 ∧ p = .io t)) := by
  unfold startE at h
  by_cases c : i < ts.length
  · refine ⟨c, ?_⟩
    rw [List.getElem?_append_left (by rw [startT_len]; exact c)] at h
    cases io with
    | false =>
      simp only [startT, List.getElem?_map] at h
      cases e : ts[i]? with
      | none => rw [e] at h; cases h
      | some t => rw [e] at h; cases h; exact ⟨t, rfl, .inl rfl⟩
    | true =>
      cases ts with
      | nil => simp at c
      | cons t ts =>
        cases i with
        | zero => simp [startT] at h; exact ⟨t, by simp, .inr ⟨rfl, rfl, h.symm⟩⟩
        | succ i =>
          simp only [startT, List.getElem?_cons_succ, List.getElem?_map] at h
          cases e : ts[i]? with
          | none => rw [e] at h; cases h
          | some u => rw [e] at h; cases h; exact ⟨u, by simpa using e, .inl rfl⟩
  · rw [List.getElem?_append_right (by rw [startT_len]; omega), List.getElem?_replicate] at h
    split at h <;> cases h
def ghOf (H : Hp) (AV : Addr → Prop) (F : List Addr) (vs : List V) : Gh := ⟨H, AV, F, match vs with | .ref a :: _ => a | _ => 0⟩
theorem R.start {io : Bool} {AV : Addr → Prop} {F : List Addr} {H : Hp} {vs : List V} {ts : List T} {N : List Str} (hAV : ∀ a, AV a → a ∉ F ∧ Liv H a) (ha : ArgsAt io (avF AV F) F H vs ts) (hn : vs.length ≤ N.length) :
    R (ghOf H AV F vs) (startE N.length io ts) (L2.start N vs) [] H := by
  have len : vs.length = ts.length := by
    cases io with
    | false => exact ha.2.len
    | true => obtain ⟨a, vs', t, ts', rfl, rfl, o, d⟩ := ha; simp [d.len]
  let G := ghOf H AV F vs
  let w : Addr → Option Loc := fun b => if b ∈ F then some (.sl 0) else none
  have iff1 : ∀ b, G.av w b → avF AV F b := fun b z => by
    rcases z with z | ⟨l, z⟩
    · exact .inl z
    · by_cases c : b ∈ F
      · exact .inr c
      · rw [show w b = none from if_neg c] at z; cases z
  have wF : ∀ b ∈ F, w b = some (.sl 0) := fun b hb => if_pos hb
  have liv : ∀ b ∈ F, Liv H b := by
    cases io with
    | false => rw [ha.1]; intro b hb; cases hb
    | true => obtain ⟨a, vs', t, ts', rfl, rfl, o, d⟩ := ha; exact o.al
  refine ⟨w, ?_, fun i p x hp hx => ?_, trivial, fun b l e => ?_, fun b o _ e => e, fun a z => hAV a z, fun v j m => by cases m⟩
  · simp only [startE, L2.start, startT_len, List.length_append, List.length_replicate, List.length_map, len]
  · obtain ⟨c, t, ht, hpt⟩ := startE_at hp
    rcases start_at hx with ⟨c2, hx2⟩ | ⟨c2, _⟩
    · cases io with
      | false =>
        rcases hpt with rfl | ⟨z, _⟩
        · obtain ⟨v, hv, d⟩ := ha.2.get' ht
          rw [hv] at hx2
          exact ⟨v, hx2, Dn.up (fun b z => .inl (iff1 b z)) d⟩
        · cases z
      | true =>
        obtain ⟨a, vs', t1, ts', rfl, rfl, o, d⟩ := ha
        rcases hpt with rfl | ⟨_, rfl, rfl⟩
        · cases i with
          | zero =>
            simp [startE, startT] at hp
          | succ i =>
            obtain ⟨v, hv, d⟩ := d.get' (i := i) (by simpa using ht)
            have hx3 : x = some v := by rw [hx2]; simpa using hv
            exact ⟨v, hx3, Dn.up (fun b z => .inl (iff1 b z)) d⟩
        · simp at ht hx2
          subst ht
          exact ⟨_, hx2, rfl, Own.up o fun b z => .inl (iff1 b z), wF⟩
    · omega
  · by_cases c : b ∈ F
    · exact ⟨fun z => (hAV b z).1 c, .inr c, liv b c⟩
    · rw [show w b = none from if_neg c] at e; cases e
theorem R.io_at {G : Gh} {w : Addr → Option Loc} {ρ : Env} {σ : St} {S : Stk} {H : Hp} {i : Nat} {t : T} (r : RO G w ρ σ S H) (h : ρ[i]? = some (some (.io t))) : Own (G.av w) H G.ia t G.io ∧ ∀ b ∈ G.io, w b = some (.sl i) := by
  obtain ⟨v, hv, z⟩ := r.at_slot h
  exact z.2
/-- a def whose body is read over trees -/
theorem spL_len {io : Bool} {lsp : LSp} {n : Nat} {vs : List V} {H : Hp} {Q : VK} {E : XK} (hl : ∀ ts q x, lsp ts q x → ts.length = n) (h : spL io lsp vs H Q E) : vs.length = n := by
  obtain ⟨AV, F, ts, q, x, _, ha, hsp, _⟩ := h
  rw [← hl ts q x hsp]
  cases io with
  | false => exact ha.2.len
  | true => obtain ⟨a, vs', t, ts', rfl, rfl, o, d⟩ := ha; simp [d.len]
theorem spL_bodyG {io : Bool} {lsp : LSp} {t : TS} {N : List Str} {n : Nat} {vs : List V} {H : Hp} {Q : VK} {E : XK} (h : spL io lsp vs H Q E) (hN : N.length = n) (hn : vs.length ≤ n)
    (hs : ∀ (AV : Addr → Prop) (F : List Addr) (ts : List T) (q : PV → T → Prop) (x : Addr → List (Str × T) → T → Prop), ArgsAt io (avF AV F) F H vs ts → lsp ts q x → (∀ C fs t' d H', x C fs t' → (∀ b o, b ∉ F → H b = some o → H' b = some o) → ExcAt io AV F H H' vs d fs t' → E (.ref C) (some d) H') →
      ∃ ls, SndS (ghOf H AV F vs) [] t ls ∧ ls (endsL io q) (startE n io ts)) : t { nx := fun _ H' => Q .non H', rt := Q } (L2.start N vs) H := by
  subst hN
  obtain ⟨AV, F, ts, q, x, hAV, ha, hsp, hq, he⟩ := h
  obtain ⟨ls, hs, pf⟩ := hs AV F ts q x ha hsp he
  have R0 := R.start (N := N) hAV ha hn
  refine hs _ (endsL io q) _ _ H NoAl.nil R0 ⟨fun ρ σ H' r z => ?_, fun _ _ _ _ z => z.elim, fun _ _ _ _ z => z.elim, fun p ρ σ v H' r z => ?_⟩ pf
  · obtain ⟨t', rr, e1, e2, z⟩ := z
    cases e2
    obtain ⟨w, r⟩ := r
    refine hq (.sh .non) t' .non H' z (fun b o n e => r.frame b o n e) ⟨[], (by intro c hc; cases hc), fun hio a vs' e => ?_, rfl, .non⟩
    subst hio
    simp only [ioT] at e1
    split at e1
    · next t2 e2 =>
      cases e1
      obtain ⟨o, f⟩ := R.io_at r e2
      subst e
      rw [List.append_nil]
      exact o.up fun b z => .inl (z.elim .inl fun m => .inr ⟨_, f b m⟩)
    · cases e1
  · obtain ⟨t', rr, e1, e2, z⟩ := z
    obtain ⟨w, r⟩ := r
    have ior : io = true → ∀ FB : List Addr, (∀ b ∈ FB, ∃ l, w b = some l) → ∀ a vs', vs = .ref a :: vs' → Own (avF AV (F ++ FB)) H' a t' F := by
      intro hio FB hFB a vs' e
      subst hio
      simp only [ioT] at e1
      split at e1
      · next t2 e3 =>
        cases e1
        obtain ⟨o, f⟩ := R.io_at r e3
        subst e
        refine o.up fun b z => .inl ?_
        rcases z with z | m
        · exact .inl z
        · rcases List.mem_append.mp m with m | m
          · exact .inr ⟨_, f b m⟩
          · exact .inr (hFB b m)
      · cases e1
    -- shared
    have shc : ∀ {t : T}, PvAt (ghOf H AV F vs) w (.pn 0) σ H' v (.sh t) → rr = .sh t → Q v H' := by
      rintro t d rfl
      refine hq (.sh t) t' v H' z (fun b o n e => r.frame b o n e) ⟨[], (by intro c hc; cases hc), fun hio => ior hio [] (by intro b hb; cases hb), rfl, ?_⟩
      have d' : Dn _ H' v t := d
      have iow : ∀ b ∈ F, Gh.av (ghOf H AV F vs) w b := by
        intro b hb
        cases io with
        | false => rw [ha.1] at hb; cases hb
        | true =>
          simp only [ioT] at e1
          split at e1
          · next t2 e3 => exact .inr ⟨_, (R.io_at r e3).2 b hb⟩
          · cases e1
      exact Dn.up (fun b zz => .inl (zz.elim .inl (iow b))) d'
    have owc : ∀ {t : T} {l : Loc}, (∃ a F', v = .ref a ∧ Own (Gh.av (ghOf H AV F vs) w) H' a t F' ∧ ∀ b ∈ F', w b = some l) → (io = true → l ≠ .sl 0) → rr = .ow t → Q v H' := by
      rintro t l ⟨a, F', rfl, o, f⟩ hl rfl
      have fr0 : ∀ c ∈ F', H c = none ∧ Liv H' c := fun c hc => by
        obtain ⟨_, h2, h3⟩ := r.own c _ (f c hc)
        refine ⟨?_, h3⟩
        rcases h2 with h2 | h2
        · exact h2
        · cases io with
          | false => rw [show F = [] from ha.1] at h2; cases h2
          | true =>
            simp only [ioT] at e1
            split at e1
            · next t2 e3 =>
              have := (R.io_at r e3).2 c h2
              rw [f c hc] at this
              exact absurd (Option.some.inj this) (hl rfl)
            · cases e1
      refine hq (.ow t) t' _ H' z (fun b o n e => r.frame b o n e) ⟨F', fr0, fun hio => ior hio F' fun b hb => ⟨_, f b hb⟩, a, rfl, o.up fun b zz => .inl ?_⟩
      rcases zz with zz | m
      · exact .inl zz
      · rcases List.mem_append.mp m with m | m
        · cases io with
          | false => rw [show F = [] from ha.1] at m; cases m
          | true =>
            simp only [ioT] at e1
            split at e1
            · next t2 e3 => exact .inr ⟨_, (R.io_at r e3).2 b m⟩
            · cases e1
        · exact .inr ⟨_, f b m⟩
    cases p with
    | sh t => cases e2; exact shc r.top rfl
    | fz t => cases e2; exact shc r.top rfl
    | ow t => cases e2; exact owc r.top (fun _ z => by cases z) rfl
    | cx a d C fs => cases e2
    | io t => cases e2
    | al i =>
      have hv : σ[i]? = some (some v) := r.top
      dsimp only [resT] at e2
      split at e2
      · next t e3 =>
        cases e2
        obtain ⟨v', hv', zz⟩ := r.at_slot e3
        rw [hv] at hv'; cases hv'
        refine owc zz (fun hio zz2 => ?_) rfl
        cases zz2
        subst hio
        simp only [ioT, e3] at e1
        cases e1
      · next t e3 =>
        cases e2
        obtain ⟨v', hv', zz⟩ := r.at_slot e3
        rw [hv] at hv'; cases hv'
        exact shc zz rfl
      · cases e2
theorem spL_body {io : Bool} {lsp : LSp} {t : TS} {ls : LS} {N : List Str} {n : Nat} {vs : List V} {H : Hp} {Q : VK} {E : XK} (hs : ∀ G, SndS G [] t ls) (h : spL io lsp vs H Q E) (hN : N.length = n) (hn : vs.length ≤ n)
    (pf : ∀ ts q, lsp ts q (fun _ _ _ => False) → ls (endsL io q) (startE n io ts)) (nox : ∀ ts q x, lsp ts q x → lsp ts q fun _ _ _ => False) : t { nx := fun _ H' => Q .non H', rt := Q } (L2.start N vs) H :=
  spL_bodyG h hN hn fun AV F ts q x _ hsp _ => ⟨ls, hs _, pf ts q (nox _ _ _ hsp)⟩
end LP
end
section
set_option maxRecDepth 100000
set_option maxHeartbeats 4000000
namespace LP
open PySem L2 LH
section
variable {G : Gh} {w : Addr → Option Loc} {ρ ρ' : Env} {σ : St} {S : Stk} {H H' : Hp} {v : V}
theorem RO.ret0 {p : PV} {t' : T} {vs : List V} (R0 : RO G w ρ σ S H) (s : Same H H') (ra : RetAt false (G.av w) [] H H' vs v p t') : R G ρ σ ((v, p) :: S) H' := by
  obtain ⟨FB, hFB, _, h⟩ := ra
  cases p with
  | sh r =>
    obtain ⟨rfl, d⟩ := h
    exact ⟨w, (R0.same s).push (p := .sh r) (Dn.up (fun b z => .inl (.inl z)) d)⟩
  | ow r =>
    obtain ⟨b, rfl, o⟩ := h
    exact R0.new s hFB (o.up fun c z => .inl (z.imp id fun m => by simpa using m))
  | _ => exact h.elim
/-- behind a call that changed F, all at one place -/
theorem RO.afterL {F FB : List Addr} {l0 : Loc} {p : PV} (r : RO G w ρ σ S H) (hF : ∀ b ∈ F, w b = some l0) (hl0 : ∀ j, l0 = .pn j → S.length ≤ j) (fr : ∀ b o, b ∉ F → H b = some o → H' b = some o)
    (hFB : ∀ c ∈ FB, H c = none ∧ Liv H' c) (lvF : ∀ b ∈ F, Liv H' b) (hlen : ρ'.length = ρ.length)
    (key : ∀ w1 : Addr → Option Loc, (∀ b ∈ FB, w1 b = some (.pn S.length)) → (∀ b l, w b = some l → w1 b = some l) → (∀ b, G.av w1 b → G.av w b ∨ b ∈ FB) →
      (∀ k p, ρ'[k]? = some (some p) → (ρ[k]? = some (some p) ∧ l0 ≠ .sl k) ∨ (∀ x, σ[k]? = some x → ∃ v, x = some v ∧ PvAt G w1 (.sl k) [] H' v p)) ∧ PvAt G w1 (.pn S.length) σ H' v p)
    (hals : ∀ v j, (v, PV.al j) ∈ (v, p) :: S → ∃ t, ρ'[j]? = some (some (.ow t)) ∨ ρ'[j]? = some (some (.fz t)) ∨ ρ'[j]? = some (some (.io t))) : R G ρ' σ ((v, p) :: S) H' := by
  have nFB : ∀ b l, w b = some l → b ∉ FB := fun b l e hb => by
    have := (r.fresh (hFB b hb).1).1
    rw [this] at e; cases e
  let w1 : Addr → Option Loc := fun b => open Classical in if b ∈ FB then some (.pn S.length) else w b
  have c1 : ∀ b ∈ FB, w1 b = some (.pn S.length) := fun b hb => if_pos hb
  have c2 : ∀ b, b ∉ FB → w1 b = w b := fun b hb => if_neg hb
  have kp : ∀ b l, w b = some l → w1 b = some l := fun b l e => (c2 b (nFB b l e)).trans e
  have up2 : ∀ b, G.av w1 b → G.av w b ∨ b ∈ FB := fun b z => by
    rcases z with z | ⟨l, z⟩
    · exact .inl (.inl z)
    · by_cases c : b ∈ FB
      · exact .inr c
      · rw [c2 b c] at z; exact .inl (.inr ⟨l, z⟩)
  have up : ∀ b, G.av w1 b → G.av w b ∨ H b = none := fun b z => (up2 b z).imp id fun m => (hFB b m).1
  obtain ⟨kslot, ktop⟩ := key w1 c1 kp up2
  have frl : ∀ (l : Loc), l ≠ l0 → ∀ b o, (¬ G.av w1 b ∨ w1 b = some l) → H b = some o → H' b = some o := fun l hl b o z e => by
    refine fr b o (fun m => ?_) e
    have e1 := kp b _ (hF b m)
    rcases z with z | z
    · exact z (.inr ⟨_, e1⟩)
    · rw [e1] at z; cases z; exact hl rfl
  refine ⟨w1, by rw [hlen]; exact r.len, fun k q x hq hx => ?_, ⟨ktop, ?_⟩, fun b l e => ?_, fun b o n e => fr b o (fun m => ?_) (r.frame b o n e), r.avs, fun u j m => ?_⟩
  · rcases kslot k q hq with ⟨h1, h2⟩ | h
    · obtain ⟨u, e, z⟩ := r.slot k q x h1 hx
      exact ⟨u, e, (z.up (fun _ _ => rfl) up fun b => kp b _).fr fun b o zz => frl _ (Ne.symm h2) b o zz⟩
    · exact h x hx
  · refine (r.stk.up (fun _ _ _ => rfl) up fun b j _ => kp b _).fr fun b o zz e => ?_
    refine fr b o (fun m => ?_) e
    have e1 := kp b _ (hF b m)
    rcases zz with zz | ⟨j, hj, zz⟩
    · exact zz (.inr ⟨_, e1⟩)
    · rw [e1] at zz
      have := hl0 j (Option.some.inj zz)
      omega
  · by_cases c : b ∈ FB
    · obtain ⟨h1, h2⟩ := hFB b c
      refine ⟨(r.fresh h1).2, ?_, h2⟩
      by_cases d : b ∈ G.io
      · exact .inr d
      · refine .inl ?_
        cases q : G.H0 b with
        | none => rfl
        | some o => rw [r.frame b o d q] at h1; cases h1
    · rw [c2 b c] at e
      obtain ⟨h1, h2, h3⟩ := r.own b l e
      refine ⟨h1, h2, ?_⟩
      by_cases m : b ∈ F
      · exact lvF b m
      · exact h3.same fun o => fr b o m
  · rcases (r.own b _ (hF b m)).2.1 with q | q
    · rw [q] at e; cases e
    · exact n q
  · refine hals u j ?_
    rcases List.mem_cons.mp m with m | m
    · cases m; exact List.mem_cons_self
    · exact List.mem_cons_of_mem _ m
end
section
variable {ta te : TE} {la le : LE} {t : TA} {l : LA} {K : PySem.W.Frag}
def lCall0 (lsp : LSp) (l : LA) : LE := fun ρ Q => l ρ fun ps ρ1 => ∃ ts ρ2, frzs ρ1 ps = some (ts, ρ2) ∧ lsp ts (fun p _ => Q p ρ2) (fun _ _ _ => False)
theorem call0_go {G : Gh} {ρ : Env} {σ : St} {S : Stk} {H : Hp} {ps : List PV} {vs : List V} {ts : List T} {ρ2 : Env} {lsp : LSp} {Q : VK} {E : XK} {P : PV → Env → Prop} (R1 : R G ρ σ (psh vs ps S) H) (hl : vs.length = ps.length) (e : frzs ρ ps = some (ts, ρ2))
    (h : lsp ts (fun p _ => P p ρ2) (fun _ _ _ => False)) (k : ∀ p ρ' v H', P p ρ' → R G ρ' σ ((v, p) :: S) H' → Q v H') : spL false lsp vs H Q E := by
  obtain ⟨⟨w, R2⟩, hl2⟩ := R.frzs R1 hl e
  refine ⟨G.av w, [], ts, _, _, fun a z => ⟨by simp, R2.live a z⟩, ⟨rfl, (R2.dns hl2).up fun b z => .inl (z.elim id fun m => by cases m)⟩, h, fun p t' v H' q s ra => ?_, fun _ _ _ _ _ z => z.elim⟩
  exact k _ _ _ _ q (R2.unpsh.ret0 (fun b o e => s b o (by simp) e) ra)
theorem sn_call0 {lsp : LSp} {E : XK} (ha : SndA G t l) : Snd G (tCall (spL false lsp) [] E t) (lCall0 lsp l) := by
  intro ρ σ S H Q P R0 q k
  refine ha ρ σ S H _ _ R0 q fun ps ρ1 vs H1 q1 hl R1 => ?_
  obtain ⟨ts, ρ2, e, q1⟩ := q1
  rw [List.append_nil]
  exact call0_go R1 hl e q1 k
def lMeth0 (C : Addr) (m : Str) (lsp : LSp) (la : LE) (l : LA) : LE := fun ρ Q => la ρ fun p ρ1 => ∃ ft, val ρ1 p = some (.ins C ft) ∧ ft.lookup m = none ∧ l ρ1 fun ps ρ2 => ∃ ts ρ3, frzs ρ2 (p :: ps) = some (ts, ρ3) ∧ lsp ts (fun p _ => Q p ρ3) (fun _ _ _ => False)
theorem sn_meth0 {C : Addr} {m : Str} {lsp : LSp} {E : XK} (ha : Snd G ta la) (hl : SndA G t l) : Snd G (tMeth C m (spL false lsp) [] E ta t) (lMeth0 C m lsp la l) := by
  intro ρ σ S H Q P R0 q k
  refine ha ρ σ S H _ _ R0 q fun p ρ1 x H1 q1 R1 => ?_
  obtain ⟨ft, e1, e2, q1⟩ := q1
  obtain ⟨w, R1'⟩ := id R1
  obtain ⟨a, dx, fs, rfl, e3, k3, d⟩ := (R1'.rk R1'.top e1).ins
  refine ⟨a, dx, fs, rfl, e3, lookup_no k3 e2, ?_⟩
  refine hl ρ1 σ _ H1 _ _ R1 q1 fun ps ρ2 vs H2 q2 hlen R2 => ?_
  obtain ⟨ts, ρ3, e, q2⟩ := q2
  rw [List.append_nil]
  exact call0_go (ps := p :: ps) (vs := .ref a :: vs) R2 (by simp [hlen]) e q2 k
/-! calls that change their first argument -/
def ownAt : Option (Option PV) → Option (T × (T → PV))
  | some (some (.ow t)) => some (t, .ow)
  | some (some (.io t)) => some (t, .io)
  | _ => none
theorem slot_own {G : Gh} {w : Addr → Option Loc} {ρ : Env} {σ : St} {S : Stk} {H : Hp} {i : Nat} {t : T} {m : T → PV} (r : RO G w ρ σ S H) (h : ownAt (ρ[i]?) = some (t, m)) :
    ∃ a F, σ[i]? = some (some (.ref a)) ∧ Own (G.av w) H a t F ∧ (∀ b ∈ F, w b = some (.sl i)) ∧ (∀ w1 H' t', Own (G.av w1) H' a t' F → (∀ b ∈ F, w1 b = some (.sl i)) → PvAt G w1 (.sl i) [] H' (.ref a) (m t')) ∧
      (∀ t', (m t' = .ow t') ∨ (m t' = .io t')) ∧ i < ρ.length := by
  unfold ownAt at h
  have hl : ∀ {p : PV}, ρ[i]? = some (some p) → i < ρ.length := fun e => by
    false_or_by_contra
    rw [List.getElem?_eq_none (by omega)] at e; cases e
  split at h
  · next t e =>
    cases h
    obtain ⟨v, hv, a, F, rfl, o, f⟩ := r.at_slot e
    exact ⟨a, F, hv, o, f, fun w1 H' t' o' f' => ⟨a, F, rfl, o', f'⟩, fun t' => .inl rfl, hl e⟩
  · next t e =>
    cases h
    obtain ⟨v, hv, rfl, o, f⟩ := r.at_slot e
    exact ⟨G.ia, G.io, hv, o, f, fun w1 H' t' o' f' => ⟨rfl, o', f'⟩, fun t' => .inr rfl, hl e⟩
  · cases h
def call1 (lsp : LSp) (i : Nat) (ps : List PV) (ρ1 : Env) (Q : PV → Env → Prop) : Prop := ∃ ts ρ2 t m, frzs ρ1 ps = some (ts, ρ2) ∧ ownAt (ρ2[i]?) = some (t, m) ∧ lsp (t :: ts) (fun p t' => Q p (ρ2.set i (some (m t')))) (fun _ _ _ => False)
theorem call1_go {G : Gh} {ρ : Env} {σ : St} {S : Stk} {H : Hp} {i : Nat} {x : V} {ps : List PV} {vs : List V} {lsp : LSp} {Q : VK} {E : XK} {P : PV → Env → Prop} (R1 : R G ρ σ (psh vs ps ((x, .al i) :: S)) H) (hl : vs.length = ps.length)
    (h : call1 lsp i ps ρ P) (k : ∀ p ρ' v H', P p ρ' → R G ρ' σ ((v, p) :: S) H' → Q v H') : spL true lsp (x :: vs) H Q E := by
  obtain ⟨ts, ρ2, t, m, e, ei, h⟩ := h
  obtain ⟨⟨w, R2⟩, hl2⟩ := R.frzs R1 hl e
  have das := R2.dns hl2
  have R3 := R2.unpsh
  have hx : σ[i]? = some (some x) := R3.top
  obtain ⟨a, F, hv, o, f, mk, md, hi⟩ := slot_own R3 ei
  rw [hx] at hv; cases hv
  have R4 := R3.pop
  let AV : Addr → Prop := fun b => G.av w b ∧ b ∉ F
  have toav : ∀ b, avF AV F b → G.av w b := fun b z => z.elim (·.1) fun m => .inr ⟨_, f b m⟩
  have ofav : ∀ b, G.av w b → avF AV F b := fun b z => by
    by_cases c : b ∈ F
    · exact .inr c
    · exact .inl ⟨z, c⟩
  refine ⟨AV, F, t :: ts, _, _, fun b z => ⟨z.2, R4.live b z.1⟩, ⟨a, vs, t, ts, rfl, rfl, o.up fun b z => .inl (toav b z), das.up fun b z => .inl (toav b z)⟩, h, fun p t' v H' q s ra => ?_, fun _ _ _ _ _ z => z.elim⟩
  obtain ⟨FB, hFB, io, res⟩ := ra
  have io' := io rfl a vs rfl
  have lF : ∀ b ∈ F, Liv H' b := io'.al
  refine k _ _ _ _ q (R4.afterL (l0 := .sl i) f (fun j z => by cases z) s hFB lF (by simp) (fun w1 c1 kp up2 => ⟨fun j p hp => ?_, ?_⟩) fun u j mm => ?_)
  · by_cases c : i = j
    · subst c
      rw [List.getElem?_set_self hi] at hp
      cases hp
      refine .inr fun x hx2 => ?_
      rw [hx] at hx2; cases hx2
      refine ⟨_, rfl, mk w1 H' t' (io'.up fun b z => .inl ?_) fun b hb => kp b _ (f b hb)⟩
      rcases up2 b z with z | z
      · exact (ofav b z).imp id fun m => List.mem_append_left _ m
      · exact .inr (List.mem_append_right _ z)
    · rw [List.getElem?_set_ne c] at hp
      exact .inl ⟨hp, fun z => c (by cases z; rfl)⟩
  · cases p with
    | sh r =>
      obtain ⟨rfl, d⟩ := res
      exact Dn.up (fun b z => .inl (ofav b ((up2 b z).elim id fun m => by cases m))) d
    | ow r =>
      obtain ⟨b, rfl, ob⟩ := res
      refine ⟨b, FB, rfl, ob.up fun c z => .inl ?_, c1⟩
      rcases up2 c z with z | z
      · exact (ofav c z).imp id fun m => List.mem_append_left _ m
      · exact .inr (List.mem_append_right _ z) 
    | _ => exact res.elim
  · have mem : (u, PV.al j) ∈ S := by
      rcases List.mem_cons.mp mm with e | mm
      · cases p <;> first | exact res.elim | cases e
      · exact mm
    obtain ⟨t2, z⟩ := R4.als u j mem
    by_cases c : i = j
    · subst c
      rw [List.getElem?_set_self hi]
      rcases md t' with e | e
      · exact ⟨t', .inl (by rw [e])⟩
      · exact ⟨t', .inr (.inr (by rw [e]))⟩
    · exact ⟨t2, by rw [List.getElem?_set_ne c]; exact z⟩
def lCall1 (lsp : LSp) (l : LA) : LE := fun ρ Q => l ρ fun ps ρ1 => ∃ i ps', ps = .al i :: ps' ∧ call1 lsp i ps' ρ1 Q
theorem sn_call1 {lsp : LSp} {E : XK} (ha : SndA G t l) : Snd G (tCall (spL true lsp) [] E t) (lCall1 lsp l) := by
  intro ρ σ S H Q P R0 q k
  refine ha ρ σ S H _ _ R0 q fun ps ρ1 vs H1 q1 hl R1 => ?_
  obtain ⟨i, ps', rfl, q1⟩ := q1
  match vs, hl with
  | x :: vs, hl =>
    rw [List.append_nil]
    exact call1_go (ps := ps') R1 (by simpa using hl) q1 k
/-- what stands there is an instance of the class at C without this name of its own -/
def OpqIns (C : Addr) (m : Str) : T → Prop
  | .opq o => ∀ (av : Addr → Prop) (H : Hp) (a : Addr) (F : List Addr), o.φ av H a F → ∃ dx fs, H a = some (.ins C dx fs) ∧ fs.lookup m = none
  | _ => False
theorem OpqIns.get {C : Addr} {m : Str} {t : T} (h : OpqIns C m t) {av : Addr → Prop} {H : Hp} {a : Addr} {F : List Addr} (o : Own av H a t F) : ∃ dx fs, H a = some (.ins C dx fs) ∧ fs.lookup m = none := by
  cases t with
  | opq q => exact h av H a F o
  | _ => exact h.elim
def lMeth1 (C : Addr) (m : Str) (lsp : LSp) (la : LE) (l : LA) : LE := fun ρ Q => la ρ fun p ρ1 => ∃ i t md, p = .al i ∧ ownAt (ρ1[i]?) = some (t, md) ∧ OpqIns C m t ∧ l ρ1 fun ps ρ2 => call1 lsp i ps ρ2 Q
theorem sn_meth1 {C : Addr} {m : Str} {lsp : LSp} {E : XK} (ha : Snd G ta la) (hl : SndA G t l) : Snd G (tMeth C m (spL true lsp) [] E ta t) (lMeth1 C m lsp la l) := by
  intro ρ σ S H Q P R0 q k
  refine ha ρ σ S H _ _ R0 q fun p ρ1 x H1 q1 R1 => ?_
  obtain ⟨i, u, md, rfl, e1, op, q1⟩ := q1
  obtain ⟨w, R1'⟩ := id R1
  have hx : σ[i]? = some (some x) := R1'.top
  obtain ⟨a, F, hv, o, _⟩ := slot_own R1' e1
  rw [hx] at hv; cases hv
  obtain ⟨dx, fs, e2, e3⟩ := op.get o
  refine ⟨a, dx, fs, rfl, e2, e3, ?_⟩
  refine hl ρ1 σ _ H1 _ _ R1 q1 fun ps ρ2 vs H2 q2 hlen R2 => ?_
  rw [List.append_nil]
  exact call1_go R2 hlen q2 k
/-- .. of a thing just made, held nowhere else -/
def lMethT (C : Addr) (m : Str) (lsp : LSp) (la : LE) (l : LA) : LE := fun ρ Q => la ρ fun p ρ1 => ∃ u, p = .ow u ∧ OpqIns C m u ∧ l ρ1 fun ps ρ2 => ∃ ts ρ3, frzs ρ2 ps = some (ts, ρ3) ∧ lsp (u :: ts) (fun p _ => Q p ρ3) (fun _ _ _ => False)
theorem sn_methT {C : Addr} {m : Str} {lsp : LSp} {E : XK} (ha : Snd G ta la) (hl : SndA G t l) : Snd G (tMeth C m (spL true lsp) [] E ta t) (lMethT C m lsp la l) := by
  intro ρ σ S H Q P R0 q k
  refine ha ρ σ S H _ _ R0 q fun p ρ1 x H1 q1 R1 => ?_
  obtain ⟨u, rfl, op, q1⟩ := q1
  obtain ⟨w, R1'⟩ := id R1
  obtain ⟨a, F, rfl, o, _⟩ := R1'.top
  obtain ⟨dx, fs, e2, e3⟩ := op.get o
  refine ⟨a, dx, fs, rfl, e2, e3, ?_⟩
  refine hl ρ1 σ _ H1 _ _ R1 q1 fun ps ρ2 vs H2 q2 hlen R2 => ?_
  obtain ⟨ts, ρ3, e, h⟩ := q2
  rw [List.append_nil]
  obtain ⟨⟨w, R2⟩, hl2⟩ := R.frzs R2 hlen e
  have das := R2.dns hl2
  have R3 := R2.unpsh
  obtain ⟨a', F, ea, o, f⟩ := R3.top
  cases ea
  have R4 := R3.pop
  let AV : Addr → Prop := fun b => G.av w b ∧ b ∉ F
  have toav : ∀ b, avF AV F b → G.av w b := fun b z => z.elim (·.1) fun m => .inr ⟨_, f b m⟩
  have ofav : ∀ b, G.av w b → avF AV F b := fun b z => by
    by_cases c : b ∈ F
    · exact .inr c
    · exact .inl ⟨z, c⟩
  refine ⟨AV, F, u :: ts, _, _, fun b z => ⟨z.2, R4.live b z.1⟩, ⟨a, vs, u, ts, rfl, rfl, o.up fun b z => .inl (toav b z), das.up fun b z => .inl (toav b z)⟩, h, fun p t' v H' q s ra => ?_, fun _ _ _ _ _ z => z.elim⟩
  obtain ⟨FB, hFB, io, res⟩ := ra
  have lF : ∀ b ∈ F, Liv H' b := (io rfl a vs rfl).al
  refine k _ _ _ _ q (R4.afterL (l0 := .pn S.length) (ρ' := ρ3) f (fun j z => by cases z; exact Nat.le_refl _) s hFB lF rfl (fun w1 c1 kp up2 => ⟨fun j p hp => .inl ⟨hp, fun z => by cases z⟩, ?_⟩) fun v j mm => ?_)
  · cases p with
    | sh r =>
      obtain ⟨rfl, d⟩ := res
      exact Dn.up (fun b z => .inl (ofav b ((up2 b z).elim id fun m => by cases m))) d
    | ow r =>
      obtain ⟨b, rfl, ob⟩ := res
      refine ⟨b, FB, rfl, ob.up fun c z => .inl ?_, c1⟩
      rcases up2 c z with z | z
      · exact (ofav c z).imp id fun m => List.mem_append_left _ m
      · exact .inr (List.mem_append_right _ z) 
    | _ => exact res.elim
  · rcases List.mem_cons.mp mm with e | mm
    · cases p <;> first | exact res.elim | cases e
    · exact R4.als v j mm
/-! new objects of own classes -/
def MakeS (C : Addr) (sp : Sp) (lm : List T → (T → Prop) → Prop) : Prop := ∀ (av : Addr → Prop) (H : Hp) (vs : List V) (ts : List T) (x dx : Addr) (Q : VK) (P : T → Prop), (∀ a, av a → Liv H a) → Dns av H vs ts → H x = none → H dx = none → dx ≠ x → lm ts P →
  (∀ t F H', P t → Same H H' → (∀ b ∈ F, H b = none ∧ Liv H' b) → Own (fun b => av b ∨ b ∈ F) H' x t F → Q (.ref x) H') → sp (.ref x :: vs) (upd (upd H dx (.own x)) x (.ins C dx [])) (fun v H2 => v = .non ∧ Q (.ref x) H2) E0
def lMake (lm : List T → (T → Prop) → Prop) (l : LA) : LE := fun ρ Q => l ρ fun ps ρ1 => ∃ ts ρ2, frzs ρ1 ps = some (ts, ρ2) ∧ lm ts fun t => Q (.ow t) ρ2
theorem sn_make {C : Addr} {sp : Sp} {lm : List T → (T → Prop) → Prop} (hm : MakeS C sp lm) (ha : SndA G t l) : Snd G (tMake C sp [] E0 t) (lMake lm l) := by
  intro ρ σ S H Q P R0 q k
  refine ha ρ σ S H _ _ R0 q fun ps ρ1 vs H1 q1 hl R1 => ?_
  obtain ⟨ts, ρ2, e, q1⟩ := q1
  obtain ⟨⟨w, R2⟩, hl2⟩ := R.frzs R1 hl e
  intro x dx nx nd ne
  rw [List.append_nil]
  exact hm (G.av w) H1 vs ts x dx Q _ R2.live (R2.dns hl2) nx nd ne q1 fun t F H' pt s hF o => k _ _ _ _ pt (R2.unpsh.new s hF o)
end
end LP
end
section
set_option maxRecDepth 100000
set_option maxHeartbeats 4000000
namespace LP
open PySem L2 LH
/-! ### rules by values -/
/-- values without objects -/
def lfV : T → Option V
  | .non => some .non
  | .bl b => some (.bl b)
  | .int i => some (.int i)
  | .str z => some (.str z)
  | _ => none
def lfVs : List T → Option (List V)
  | [] => some []
  | t :: ts => match lfV t, lfVs ts with
    | some v, some vs => some (v :: vs)
    | _, _ => none
section
variable {av : Addr → Prop} {H : Hp}
theorem lf_of {x y : V} {t : T} (h : Rk av H x t) (e : lfV t = some y) : x = y := by
  cases t with
  | non => cases e; exact h.non
  | bl b => cases e; exact h.bl
  | int i => cases e; exact h.int
  | str z => cases e; exact h.str
  | _ => cases e
theorem lfs_of : ∀ {xs ys : List V} {ts : List T}, Dns av H xs ts → lfVs ts = some ys → xs = ys
  | _, _, _, .nil, e => by cases e; rfl
  | _, ys, _, .cons (t := t) (ts := ts) d ds, e => by
    unfold lfVs at e
    cases h1 : lfV t with
    | none => rw [h1] at e; cases e
    | some k =>
      cases h2 : lfVs ts with
      | none => rw [h1, h2] at e; cases e
      | some us =>
        rw [h1, h2] at e
        cases e
        rw [lf_of (.inl d) h1, lfs_of ds h2]
theorem lfVs_strs : ∀ zs : List Str, lfVs (zs.map T.str) = some (zs.map V.str)
  | [] => rfl
  | z :: zs => by simp only [List.map_cons, lfVs, lfV, lfVs_strs zs]
theorem lfVs_ints : ∀ zs : List Int, lfVs (zs.map T.int) = some (zs.map V.int)
  | [] => rfl
  | z :: zs => by simp only [List.map_cons, lfVs, lfV, lfVs_ints zs]
theorem Dns.strs {vs : List V} {zs : List Str} (d : Dns av H vs (zs.map T.str)) : vs = zs.map V.str := lfs_of d (lfVs_strs zs)
theorem Dns.ints {vs : List V} {zs : List Int} (d : Dns av H vs (zs.map T.int)) : vs = zs.map V.int := lfs_of d (lfVs_ints zs)
theorem dns_strs : ∀ zs : List Str, Dns av H (zs.map V.str) (zs.map T.str)
  | [] => .nil
  | z :: zs => .cons (.str z) (dns_strs zs)
theorem dns_ints : ∀ zs : List Int, Dns av H (zs.map V.int) (zs.map T.int)
  | [] => .nil
  | z :: zs => .cons (.int z) (dns_ints zs)
end
section
variable {K : PySem.W.Frag}
/-! numbers -/
def vInt (g : Int → Int → Int) (s t : T) (P : PV → Prop) : Prop := ∃ i j, s = .int i ∧ t = .int j ∧ P (.sh (.int (g i j)))
theorem ops_int {g : Int → Int → Int} : OpS (rI0 fun i j => .int (g i j)) (vInt g) := by
  rintro av H x y s t Q P lv hx hy ⟨i, j, rfl, rfl, q⟩ k
  exact ⟨i, j, hx.int, hy.int, k _ _ _ q (Nw.here (.int _))⟩
theorem ops_ip {g : Int → Int → Int} : OpS (ipI g) (vInt g) := by
  rintro av H x y s t Q P lv hx hy ⟨i, j, rfl, rfl, q⟩ k
  exact ⟨i, j, hx.int, hy.int, k _ _ _ q (Nw.here (.int _))⟩
def vIntC (C : Int → Int → Prop) (g : Int → Int → Int) (s t : T) (P : PV → Prop) : Prop := ∃ i j, s = .int i ∧ t = .int j ∧ C i j ∧ P (.sh (.int (g i j)))
theorem ops_intC {C : Int → Int → Prop} {g : Int → Int → Int} : OpS (rI C fun i j => .int (g i j)) (vIntC C g) := by
  rintro av H x y s t Q P lv hx hy ⟨i, j, rfl, rfl, c, q⟩ k
  exact ⟨i, j, hx.int, hy.int, c, k _ _ _ q (Nw.here (.int _))⟩
def vCmp (g : Int → Int → Bool) (s t : T) (P : PV → Prop) : Prop := ∃ i j, s = .int i ∧ t = .int j ∧ P (.sh (.bl (g i j)))
theorem ops_cmp {g : Int → Int → Bool} : OpS (rI0 fun i j => .bl (g i j)) (vCmp g) := by
  rintro av H x y s t Q P lv hx hy ⟨i, j, rfl, rfl, q⟩ k
  exact ⟨i, j, hx.int, hy.int, k _ _ _ q (Nw.here (.bl _))⟩
def vUn (g : Int → Int) (s : T) (P : PV → Prop) : Prop := ∃ i, s = .int i ∧ P (.sh (.int (g i)))
theorem uns_un {g : Int → Int} : UnS (rU fun i => .int (g i)) (vUn g) := by
  rintro av H x s Q P lv hx ⟨i, rfl, q⟩ k
  exact ⟨i, hx.int, k _ _ _ q (Nw.here (.int _))⟩
/-! texts -/
def vAddS (s t : T) (P : PV → Prop) : Prop := ∃ i j, s = .str i ∧ t = .str j ∧ i.length + j.length ≤ 16777216 ∧ P (.sh (.str (i ++ j)))
theorem ops_addS : OpS rAddS vAddS := by
  rintro av H x y s t Q P lv hx hy ⟨i, j, rfl, rfl, l, q⟩ k
  exact ⟨i, j, hx.str, hy.str, by rw [sizeLine_eq]; exact l, k _ _ _ q (Nw.here (.str _))⟩
/-! == of leaves, of data -/
def vEq (neg : Bool) (s t : T) (P : PV → Prop) : Prop := ∃ x y, lfV s = some x ∧ lfV t = some y ∧ scal x y = true ∧ P (.sh (.bl (if neg then !decide (x = y) else decide (x = y))))
theorem ops_eq : OpS rEq (vEq false) := by
  rintro av H x y s t Q P lv hx hy ⟨i, j, e1, e2, c, q⟩ k
  rw [lf_of hx e1, lf_of hy e2]
  exact ⟨c, k _ _ _ q (Nw.here (.bl _))⟩
theorem ops_ne : OpS rNe (vEq true) := by
  rintro av H x y s t Q P lv hx hy ⟨i, j, e1, e2, c, q⟩ k
  rw [lf_of hx e1, lf_of hy e2]
  exact ⟨c, k _ _ _ q (Nw.here (.bl _))⟩
mutual
/-- the tree is plain data -/
inductive Dat : T → PyData → Prop
  | non : Dat .non .none
  | bl (b : Bool) : Dat (.bl b) (.bool b)
  | int (i : Int) : Dat (.int i) (.int i)
  | str (z : Str) : Dat (.str z) (.str z)
  | lst {ts : List T} {ds : List PyData} : Dats ts ds → Dat (.lst ts) (.list ds)
  | tup {ts : List T} {ds : List PyData} : Dats ts ds → Dat (.tup ts) (.tuple ds)
inductive Dats : List T → List PyData → Prop
  | nil : Dats [] []
  | cons {t : T} {ts : List T} {d : PyData} {ds : List PyData} : Dat t d → Dats ts ds → Dats (t :: ts) (d :: ds)
end
mutual
theorem Dat.dp {av : Addr → Prop} {H : Hp} : ∀ {t : T} {d : PyData} {v : V}, Dat t d → Dn av H v t → Dp K H v d
  | _, _, _, .non, h => by cases h; exact .non
  | _, _, _, .bl b, h => by cases h; exact .bl b
  | _, _, _, .int b, h => by cases h; exact .int b
  | _, _, _, .str b, h => by cases h; exact .str b
  | _, _, _, .lst ds, h => by cases h with | lst _ e d => exact .lst (SqL.of e) (Dats.dp ds d)
  | _, _, _, .tup ds, h => by cases h with | tup _ e d => exact .tup (SqT.of e) (Dats.dp ds d)
theorem Dats.dp {av : Addr → Prop} {H : Hp} : ∀ {ts : List T} {ds : List PyData} {vs : List V}, Dats ts ds → Dns av H vs ts → DpAll K H vs ds
  | _, _, _, .nil, h => by cases h; exact .nil
  | _, _, _, .cons d ds, h => by cases h with | cons h hs => exact .cons (Dat.dp d h) (Dats.dp ds hs)
end
theorem Dat.rk {av : Addr → Prop} {H : Hp} {t : T} {d : PyData} {v : V} (h : Dat t d) (r : Rk av H v t) : Dp K H v d := by
  cases h with
  | non => rw [r.non]; exact .non
  | bl b => rw [r.bl]; exact .bl b
  | int b => rw [r.int]; exact .int b
  | str b => rw [r.str]; exact .str b
  | lst ds => obtain ⟨a, vs, rfl, e, d⟩ := r.lst; exact .lst (SqL.of e) (ds.dp d)
  | tup ds => obtain ⟨a, vs, rfl, e, d⟩ := r.tup; exact .tup (SqT.of e) (ds.dp d)
theorem dats_map {α : Type} {f : α → T} {g : α → PyData} : ∀ (xs : List α), (∀ x ∈ xs, Dat (f x) (g x)) → Dats (xs.map f) (xs.map g)
  | [], _ => .nil
  | x :: xs, h => .cons (h x List.mem_cons_self) (dats_map xs fun y hy => h y (List.mem_cons_of_mem _ hy))
theorem dats_strs (zs : List Str) : Dats (zs.map T.str) (zs.map PyData.str) := dats_map zs fun z _ => .str z
theorem Dats.app : ∀ {ts us : List T} {ds es : List PyData}, Dats ts ds → Dats us es → Dats (ts ++ us) (ds ++ es)
  | _, _, _, _, .nil, h => h
  | _, _, _, _, .cons d r, h => .cons d (Dats.app r h)
def vEqD (neg : Bool) (s t : T) (P : PV → Prop) : Prop := ∃ d e, Dat s d ∧ Dat t e ∧ SeqAt.shaped d = true ∧ SeqAt.shaped e = true ∧ P (.sh (.bl (if neg then !PyData.eqv d e else PyData.eqv d e)))
theorem ops_eqD : OpS (rEqD K) (vEqD false) := by
  rintro av H x y s t Q P lv hx hy ⟨d, e, h1, h2, h3, h4, q⟩ k
  exact ⟨d, e, h1.rk hx, h2.rk hy, h3, h4, k _ _ _ q (Nw.here (.bl _))⟩
theorem ops_neD : OpS (rNeD K) (vEqD true) := by
  rintro av H x y s t Q P lv hx hy ⟨d, e, h1, h2, h3, h4, q⟩ k
  exact ⟨d, e, h1.rk hx, h2.rk hy, h3, h4, k _ _ _ q (Nw.here (.bl _))⟩
/-- beside an empty list -/
def vEqN (neg : Bool) (s t : T) (P : PV → Prop) : Prop := ∃ xs ys, s = .lst xs ∧ t = .lst ys ∧ (xs = [] ∨ ys = []) ∧ P (.sh (.bl (if neg then !decide (xs.length = ys.length) else decide (xs.length = ys.length))))
theorem nil_dns {av : Addr → Prop} {H : Hp} {vs : List V} {ts : List T} (d : Dns av H vs ts) (h : ts = []) : vs = [] := by subst h; cases d; rfl
theorem ops_eqNil : OpS (rEqL K) (vEqN false) := by
  rintro av H x y s t Q P lv hx hy ⟨xs, ys, rfl, rfl, c, q⟩ k
  obtain ⟨a, vs, rfl, e1, d1⟩ := hx.lst
  obtain ⟨b, us, rfl, e2, d2⟩ := hy.lst
  exact ⟨a, b, vs, us, rfl, rfl, SqL.of e1, SqL.of e2, c.imp (nil_dns d1) (nil_dns d2), by rw [d1.len, d2.len]; exact k _ _ _ q (Nw.here (.bl _))⟩
theorem ops_neNil : OpS (rNeL K) (vEqN true) := by
  rintro av H x y s t Q P lv hx hy ⟨xs, ys, rfl, rfl, c, q⟩ k
  obtain ⟨a, vs, rfl, e1, d1⟩ := hx.lst
  obtain ⟨b, us, rfl, e2, d2⟩ := hy.lst
  exact ⟨a, b, vs, us, rfl, rfl, SqL.of e1, SqL.of e2, c.imp (nil_dns d1) (nil_dns d2), by rw [d1.len, d2.len]; exact k _ _ _ q (Nw.here (.bl _))⟩
/-! is None -/
def isNonT : T → Bool
  | .non => true
  | _ => false
theorem isNon_of {av : Addr → Prop} {H : Hp} {x : V} {t : T} (h : Rk av H x t) : decide (x = .non) = isNonT t := by
  rcases h with h | ⟨a, F, rfl, o⟩
  · cases h <;> simp [isNonT]
  · cases t <;> simp [isNonT] <;> exact o.elim
def vIsN (neg : Bool) (s t : T) (P : PV → Prop) : Prop := t = .non ∧ P (.sh (.bl (if neg then !isNonT s else isNonT s)))
theorem ops_isN : OpS (fun x y H Q => y = V.non ∧ Q (V.bl (decide (x = V.non))) H) (vIsN false) := by
  rintro av H x y s t Q P lv hx hy ⟨rfl, q⟩ k
  exact ⟨hy.non, by rw [isNon_of hx]; exact k _ _ _ q (Nw.here (.bl _))⟩
theorem ops_notN : OpS (fun x y H Q => y = V.non ∧ Q (V.bl !decide (x = V.non)) H) (vIsN true) := by
  rintro av H x y s t Q P lv hx hy ⟨rfl, q⟩ k
  exact ⟨hy.non, by rw [isNon_of hx]; exact k _ _ _ q (Nw.here (.bl _))⟩
/-! in -/
def vIn (neg : Bool) (s t : T) (P : PV → Prop) : Prop := ∃ x xs ts, lfV s = some x ∧ sqT t = some ts ∧ lfVs ts = some xs ∧ P (.sh (.bl (if neg then !inV x xs else inV x xs)))
theorem flat_lf {t : T} {x : V} (h : lfV t = some x) : flatV x = true := by cases t <;> cases h <;> rfl
theorem flat_lfs : ∀ {ts : List T} {xs : List V}, lfVs ts = some xs → xs.all flatV = true
  | [], _, h => by cases h; rfl
  | t :: ts, xs, h => by
    unfold lfVs at h
    cases h1 : lfV t with
    | none => rw [h1] at h; cases h
    | some v =>
      cases h2 : lfVs ts with
      | none => rw [h1, h2] at h; cases h
      | some vs =>
        rw [h1, h2] at h
        cases h
        simp [flat_lf h1, flat_lfs h2]
theorem ops_in {neg : Bool} : OpS (rIn K neg) (vIn neg) := by
  rintro av H x y s t Q P lv hx hy ⟨x', xs, ts, e1, e2, e3, q⟩ k
  obtain rfl := lf_of hx e1
  cases t with
  | lst us =>
    cases e2
    obtain ⟨a, vs, rfl, e, d⟩ := hy.lst
    obtain rfl := lfs_of d e3
    exact ⟨a, _, rfl, .inl (SqL.of e), flat_lf e1, flat_lfs e3, k _ _ _ q (Nw.here (.bl _))⟩
  | tup us =>
    cases e2
    obtain ⟨a, vs, rfl, e, d⟩ := hy.tup
    obtain rfl := lfs_of d e3
    exact ⟨a, _, rfl, .inr (SqT.of e), flat_lf e1, flat_lfs e3, k _ _ _ q (Nw.here (.bl _))⟩
  | _ => cases e2
theorem inV_strs (z : Str) (zs : List Str) : inV (.str z) (zs.map V.str) = decide (z ∈ zs) := by
  unfold inV
  rw [List.any_map, Bool.eq_iff_iff, List.any_eq_true, decide_eq_true_eq]
  constructor
  · rintro ⟨y, hy, e⟩
    have : y = z := by simpa [eqV] using e
    rw [← this]; exact hy
  · exact fun h => ⟨z, h, by simp [eqV]⟩
theorem inV_ints (z : Int) (zs : List Int) : inV (.int z) (zs.map V.int) = decide (z ∈ zs) := by
  unfold inV
  rw [List.any_map, Bool.eq_iff_iff, List.any_eq_true, decide_eq_true_eq]
  constructor
  · rintro ⟨y, hy, e⟩
    have : y = z := by simpa [eqV] using e
    rw [← this]; exact hy
  · exact fun h => ⟨z, h, by simp [eqV]⟩
/-- in a list, of data of any depth -/
def vInD (neg : Bool) (s t : T) (P : PV → Prop) : Prop := ∃ d ds, Dat s d ∧ Dat t (.list ds) ∧ SeqAt.shaped d = true ∧ SeqAt.shaped (.list ds) = true ∧ P (.sh (.bl (if neg then !ds.any (fun z => PyData.eqv z d) else ds.any fun z => PyData.eqv z d)))
theorem ops_inD : OpS (rInD K) (vInD false) := by
  rintro av H x y s t Q P lv hx hy ⟨d, ds, h1, h2, h3, h4, q⟩ k
  exact ⟨d, ds, h1.rk hx, h2.rk hy, h3, h4, k _ _ _ q (Nw.here (.bl _))⟩
theorem ops_notInD : OpS (rNotInD K) (vInD true) := by
  rintro av H x y s t Q P lv hx hy ⟨d, ds, h1, h2, h3, h4, q⟩ k
  exact ⟨d, ds, h1.rk hx, h2.rk hy, h3, h4, k _ _ _ q (Nw.here (.bl _))⟩
/-- a sign in a text -/
def vInS (neg : Bool) (s t : T) (P : PV → Prop) : Prop := ∃ i j, s = .str i ∧ t = .str j ∧ P (.sh (.bl (if neg then (PySem.Builtin.Str.occurrences j i 0 j.length 1).isEmpty else !(PySem.Builtin.Str.occurrences j i 0 j.length 1).isEmpty)))
theorem ops_inS : OpS (fun x y H Q => ∃ i j, x = V.str i ∧ y = V.str j ∧ Q (V.bl !(PySem.Builtin.Str.occurrences j i 0 j.length 1).isEmpty) H) (vInS false) := by
  rintro av H x y s t Q P lv hx hy ⟨i, j, rfl, rfl, q⟩ k
  exact ⟨i, j, hx.str, hy.str, k _ _ _ q (Nw.here (.bl _))⟩
/-! subscripts -/
def vIxL (s t : T) (P : PV → Prop) : Prop := ∃ ts i u, s = .lst ts ∧ t = .int i ∧ atI ts i = some u ∧ P (.sh u)
def vIxT (s t : T) (P : PV → Prop) : Prop := ∃ ts i u, s = .tup ts ∧ t = .int i ∧ atI ts i = some u ∧ P (.sh u)
def vIxS (s t : T) (P : PV → Prop) : Prop := ∃ z i c, s = .str z ∧ t = .int i ∧ z.length ≤ 16777216 ∧ atI z.cps.toList i = some c ∧ P (.sh (.str ⟨#[c]⟩))
theorem at_dns {av : Addr → Prop} {H : Hp} {vs : List V} {ts : List T} {i : Int} {u : T} (d : Dns av H vs ts) (h : atI ts i = some u) : ∃ v, atI vs i = some v ∧ Dn av H v u := by
  unfold atI at h ⊢
  rw [d.len]
  cases e : ixN ts.length i with
  | none => rw [e] at h; cases h
  | some j =>
    rw [e] at h
    exact d.get' h
theorem ops_ixL : OpS (rIxL K) vIxL := by
  rintro av H x y s t Q P lv hx hy ⟨ts, i, u, rfl, rfl, e, q⟩ k
  obtain ⟨a, vs, rfl, e1, d⟩ := hx.lst
  obtain ⟨v, hv, dv⟩ := at_dns d e
  exact ⟨a, vs, i, v, rfl, hy.int, SqL.of e1, hv, k _ _ _ q (Nw.here dv)⟩
theorem ops_ixT : OpS (rIxT K) vIxT := by
  rintro av H x y s t Q P lv hx hy ⟨ts, i, u, rfl, rfl, e, q⟩ k
  obtain ⟨a, vs, rfl, e1, d⟩ := hx.tup
  obtain ⟨v, hv, dv⟩ := at_dns d e
  exact ⟨a, vs, i, v, rfl, hy.int, SqT.of e1, hv, k _ _ _ q (Nw.here dv)⟩
theorem ops_ixS : OpS rIxS vIxS := by
  rintro av H x y s t Q P lv hx hy ⟨z, i, c, rfl, rfl, l, e, q⟩ k
  exact ⟨z, i, c, hx.str, hy.int, by rw [sizeLine_eq]; exact l, e, k _ _ _ q (Nw.here (.str _))⟩
def vIx (s t : T) (P : PV → Prop) : Prop := vIxL s t P ∨ vIxT s t P ∨ vIxS s t P
theorem ops_ix : OpS (rIx K) vIx := by
  rintro av H x y s t Q P lv hx hy h k
  rcases h with h | h | h
  · exact .inl (ops_ixL av H x y s t Q P lv hx hy h k)
  · exact .inr (.inl (ops_ixT av H x y s t Q P lv hx hy h k))
  · exact .inr (.inr (ops_ixS av H x y s t Q P lv hx hy h k))
/-! + of lists, of tuples; * -/
def vCat (s t : T) (P : PV → Prop) : Prop := ∃ xs ys, s = .lst xs ∧ t = .lst ys ∧ xs.length + ys.length ≤ 16777216 ∧ P (.ow (.lst (xs ++ ys)))
theorem ops_cat : OpS rCat vCat := by
  rintro av H x y s t Q P lv hx hy ⟨xs, ys, rfl, rfl, l, q⟩ k
  obtain ⟨a, vs, rfl, e1, d1⟩ := hx.lst
  obtain ⟨b, us, rfl, e2, d2⟩ := hy.lst
  exact ⟨a, b, vs, us, rfl, rfl, e1, e2, by rw [d1.len, d2.len, sizeLine_eq]; exact l, fun p hp => k _ _ _ q (Nw.lst hp (d1.app d2))⟩
theorem Dns.rep {av : Addr → Prop} {H : Hp} {vs : List V} {ts : List T} (d : Dns av H vs ts) : ∀ n : Nat, Dns av H (List.replicate n vs).flatten (List.replicate n ts).flatten
  | 0 => .nil
  | n + 1 => by rw [List.replicate_succ, List.replicate_succ, List.flatten_cons, List.flatten_cons]; exact d.app (Dns.rep d n)
def vRep (s t : T) (P : PV → Prop) : Prop := ∃ xs k, s = .lst xs ∧ t = .int k ∧ -(2 ^ 63) ≤ k ∧ k < 2 ^ 63 ∧ xs.length * k.toNat ≤ 16777216 ∧ P (.ow (.lst (List.replicate k.toNat xs).flatten))
theorem ops_rep : OpS rRep vRep := by
  rintro av H x y s t Q P lv hx hy ⟨xs, j, rfl, rfl, h1, h2, l, q⟩ k
  obtain ⟨a, vs, rfl, e1, d1⟩ := hx.lst
  exact ⟨a, j, vs, rfl, hy.int, e1, h1, h2, by rw [d1.len, sizeLine_eq]; exact l, fun p hp => k _ _ _ q (Nw.lst hp (d1.rep _))⟩
/-! built-ins -/
def lenT : T → Option Nat
  | .str z => some z.length
  | .lst ts => some ts.length
  | .tup ts => some ts.length
  | _ => none
def vLen (ts : List T) (P : PV → Prop) : Prop := ∃ t n, ts = [t] ∧ lenT t = some n ∧ n ≤ 16777216 ∧ P (.sh (.int n))
theorem Rks.one {av : Addr → Prop} {H : Hp} {xs : List V} {t : T} (h : Rks av H xs [t]) : ∃ x, xs = [x] ∧ Rk av H x t := by
  cases h with | cons a b => cases b; exact ⟨_, rfl, a⟩
theorem Rks.two {av : Addr → Prop} {H : Hp} {xs : List V} {s t : T} (h : Rks av H xs [s, t]) : ∃ x y, xs = [x, y] ∧ Rk av H x s ∧ Rk av H y t := by
  cases h with | cons a b => cases b with | cons b c => cases c; exact ⟨_, _, rfl, a, b⟩
theorem cls_len : CallS (fun xs H Q => ∃ x n, xs = [x] ∧ LenV K x H n ∧ Q (.int n) H) vLen := by
  rintro av H xs ts Q P lv hx ⟨t, n, rfl, e, l, q⟩ k
  obtain ⟨x, rfl, hx1⟩ := hx.one
  refine ⟨x, n, rfl, ?_, k _ _ _ q (Nw.here (.int _))⟩
  cases t with
  | str z => cases hx1.str; cases e; exact ⟨by rw [sizeLine_eq]; exact l, rfl⟩
  | lst us => obtain ⟨a, vs, rfl, e1, d⟩ := hx1.lst; cases e; exact .inl ⟨vs, SqL.of e1, d.len.symm⟩
  | tup us => obtain ⟨a, vs, rfl, e1, d⟩ := hx1.tup; cases e; exact .inr ⟨vs, SqT.of e1, d.len.symm⟩
  | _ => cases e
/-- of what a law is handed -/
def vLenS (K : PySem.W.Frag) (ts : List T) (P : PV → Prop) : Prop := ∃ ns, ts = [.scr K ns] ∧ P (.sh (.int (ns.length : Nat)))
theorem cls_lenS : CallS (fun xs H Q => ∃ x n, xs = [x] ∧ LenV K x H n ∧ Q (.int n) H) (vLenS K) := by
  rintro av H xs ts Q P lv hx ⟨ns, rfl, q⟩ k
  obtain ⟨x, rfl, hx1⟩ := hx.one
  obtain ⟨a, rfl, e⟩ := hx1.scr
  exact ⟨_, ns.length, rfl, .inl ⟨_, e, by rw [List.length_map]⟩, k _ _ _ q (Nw.here (.int _))⟩
def vLenD (ts : List T) (P : PV → Prop) : Prop := ∃ kt, ts = [.dic kt] ∧ P (.sh (.int kt.length))
theorem cls_lenD : CallS (fun xs H Q => ∃ a kvs, xs = [V.ref a] ∧ Rd H a (HO.dK kvs) ∧ Q (V.int kvs.length) H) vLenD := by
  rintro av H xs ts Q P lv hx ⟨kt, rfl, q⟩ k
  obtain ⟨x, rfl, hx1⟩ := hx.one
  obtain ⟨a, ks, rfl, e1, k1, d⟩ := hx1.dic
  exact ⟨a, ks, rfl, e1, by rw [len_fst k1]; exact k _ _ _ q (Nw.here (.int _))⟩
def vAbs (ts : List T) (P : PV → Prop) : Prop := ∃ i, ts = [.int i] ∧ P (.sh (.int (if i < 0 then -i else i)))
theorem cls_abs : CallS rAbs vAbs := by
  rintro av H xs ts Q P lv hx ⟨i, rfl, q⟩ k
  exact ⟨i, hx.ints1, k _ _ _ q (Nw.here (.int _))⟩
def vInt2 (g : Int → Int → Int) (ts : List T) (P : PV → Prop) : Prop := ∃ i j, ts = [.int i, .int j] ∧ P (.sh (.int (g i j)))
theorem cls_int2 {g : Int → Int → Int} : CallS (fun xs H Q => ∃ i j, xs = [V.int i, V.int j] ∧ Q (V.int (g i j)) H) (vInt2 g) := by
  rintro av H xs ts Q P lv hx ⟨i, j, rfl, q⟩ k
  exact ⟨i, j, hx.ints2, k _ _ _ q (Nw.here (.int _))⟩
def vIntOf (ts : List T) (P : PV → Prop) : Prop := (∃ i, ts = [.int i] ∧ P (.sh (.int i))) ∨ ∃ b, ts = [.bl b] ∧ P (.sh (.int (if b = true then 1 else 0)))
theorem cls_intOf : CallS (fun xs H Q => (∃ i, xs = [V.int i] ∧ Q (V.int i) H) ∨ ∃ k, xs = [V.bl k] ∧ Q (V.int (if k = true then 1 else 0)) H) vIntOf := by
  rintro av H xs ts Q P lv hx h k
  rcases h with ⟨i, rfl, q⟩ | ⟨b, rfl, q⟩
  · exact .inl ⟨i, hx.ints1, k _ _ _ q (Nw.here (.int _))⟩
  · obtain ⟨x, rfl, hx1⟩ := hx.one
    exact .inr ⟨b, by rw [hx1.bl], k _ _ _ q (Nw.here (.int _))⟩
def vStrOf (ts : List T) (P : PV → Prop) : Prop := ∃ z, ts = [.str z] ∧ P (.sh (.str z))
theorem cls_strOf : CallS rStrS vStrOf := by
  rintro av H xs ts Q P lv hx ⟨z, rfl, q⟩ k
  obtain ⟨x, rfl, hx1⟩ := hx.one
  exact ⟨z, by rw [hx1.str], k _ _ _ q (Nw.here (.str _))⟩
def vStrInt (ts : List T) (P : PV → Prop) : Prop := ∃ i, ts = [.int i] ∧ i.natAbs.log2 < 1920 ∧ P (.sh (.str (Str.ofString (toString i))))
theorem cls_strInt : CallS (fun xs H Q => ∃ i, xs = [V.int i] ∧ i.natAbs.log2 < 1920 ∧ Q (V.str (PySem.Str.ofString (toString i))) H) vStrInt := by
  rintro av H xs ts Q P lv hx ⟨i, rfl, l, q⟩ k
  exact ⟨i, hx.ints1, l, k _ _ _ q (Nw.here (.str _))⟩
def vLst (ts : List T) (P : PV → Prop) : Prop := ∃ t us, ts = [t] ∧ sqT t = some us ∧ P (.ow (.lst us))
theorem cls_lst : CallS (rLstOf K) vLst := by
  rintro av H xs ts Q P lv hx ⟨t, us, rfl, e, q⟩ k
  obtain ⟨x, rfl, hx1⟩ := hx.one
  cases t with
  | lst ws => cases e; obtain ⟨a, vs, rfl, e1, d⟩ := hx1.lst; exact ⟨a, vs, rfl, .inl (SqL.of e1), fun l hl => k _ _ _ q (Nw.lst hl d)⟩
  | tup ws => cases e; obtain ⟨a, vs, rfl, e1, d⟩ := hx1.tup; exact ⟨a, vs, rfl, .inr (SqT.of e1), fun l hl => k _ _ _ q (Nw.lst hl d)⟩
  | _ => cases e
/-- tuple of a list -/
def vTup (ts : List T) (P : PV → Prop) : Prop := ∃ us, ts = [.lst us] ∧ P (.sh (.tup us))
theorem cls_tup : CallS (rTupOf K) vTup := by
  rintro av H xs ts Q P lv hx ⟨us, rfl, q⟩ k
  obtain ⟨x, rfl, hx1⟩ := hx.one
  obtain ⟨a, vs, rfl, e1, d⟩ := hx1.lst
  refine ⟨a, vs, rfl, .inl ⟨SqL.of e1, fun l hl => k _ _ _ q (Nw.tup hl (fun z => ?_) d)⟩⟩
  obtain ⟨o, e, _⟩ := lv l z
  rw [hl] at e; cases e
def vAll (ts : List T) (P : PV → Prop) : Prop := ∃ bs : List Bool, ts = [.lst (bs.map T.bl)] ∧ P (.sh (.bl (bs.all id)))
theorem Dns.bls {av : Addr → Prop} {H : Hp} : ∀ {vs : List V} {bs : List Bool}, Dns av H vs (bs.map T.bl) → vs = bs.map V.bl
  | _, [], d => by cases d; rfl
  | _, b :: bs, d => by
    rw [List.map_cons] at d
    cases d with | cons h t => cases h; rw [Dns.bls t]; rfl
theorem cls_all : CallS (rAll K) vAll := by
  rintro av H xs ts Q P lv hx ⟨bs, rfl, q⟩ k
  obtain ⟨x, rfl, hx1⟩ := hx.one
  obtain ⟨a, vs, rfl, e1, d⟩ := hx1.lst
  obtain rfl := d.bls
  exact ⟨a, bs, rfl, SqL.of e1, k _ _ _ q (Nw.here (.bl _))⟩
def vRepr (ts : List T) (P : PV → Prop) : Prop := ∃ t d, ts = [t] ∧ Dat t d ∧ Sr d ∧ d.depth ≤ 20 ∧ P (.sh (.str d.shown))
theorem cls_repr : CallS (rRepr K) vRepr := by
  rintro av H xs ts Q P lv hx ⟨t, d, rfl, h1, h2, h3, q⟩ k
  obtain ⟨x, rfl, hx1⟩ := hx.one
  exact ⟨x, d, rfl, h1.rk hx1, h2, h3, k _ _ _ q (Nw.here (.str _))⟩
/-- sorted of texts -/
def vSortS (ts : List T) (P : PV → Prop) : Prop := ∃ zs : List Str, ts = [.lst (zs.map T.str)] ∧ zs.length < 64 ∧ ∀ ys : List Str, ys.Perm zs → ys.Pairwise sLe → P (.ow (.lst (ys.map T.str)))
theorem cls_sortS : CallS (rSortedS K) vSortS := by
  rintro av H xs ts Q P lv hx ⟨zs, rfl, l, q⟩ k
  obtain ⟨x, rfl, hx1⟩ := hx.one
  obtain ⟨a, vs, rfl, e1, d⟩ := hx1.lst
  obtain rfl := d.strs
  exact ⟨a, zs, rfl, SqL.of e1, l, fun ys p pm so hp => k _ _ _ (q ys pm (sorted_le so)) (Nw.lst hp (dns_strs ys))⟩
/-! isinstance -/
def tyOfT : T → Option String
  | .non => some "NoneType"
  | .bl _ => some "bool"
  | .int _ => some "int"
  | .str _ => some "str"
  | .lst _ => some "list"
  | .tup _ => some "tuple"
  | .dic _ => some "dict"
  | .dit _ => some "dict"
  | _ => none
theorem tyx_of {av : Addr → Prop} {H : Hp} {x : V} {t : T} {n : String} (h : Rk av H x t) (e : tyOfT t = some n) : TyX K H x (.type n) := by
  cases t with
  | non => cases h.non; cases e; exact .base .non
  | bl b => cases h.bl; cases e; exact .base (.bl _)
  | int i => cases h.int; cases e; exact .base (.int _)
  | str z => cases h.str; cases e; exact .base (.str _)
  | lst ts => obtain ⟨a, vs, rfl, e1, d⟩ := h.lst; cases e; exact .base (.lst e1)
  | tup ts => obtain ⟨a, vs, rfl, e1, d⟩ := h.tup; cases e; exact .base (.tup e1)
  | dic ts => obtain ⟨a, vs, rfl, e1, d⟩ := h.dic; cases e; exact e1.elim (fun e1 => .base (.dK e1)) fun ⟨o, e1⟩ => .fDict e1
  | dit ts => obtain ⟨a, vs, rfl, e1, d⟩ := h.dit; cases e; exact .base (.dT e1)
  | _ => cases e
def clsT : T → Option Value
  | .ty n => some (.type n)
  | .cls a => some (.ref a)
  | _ => none
theorem clsv_of {av : Addr → Prop} {H : Hp} {x : V} {t : T} {u : Value} (h : Rk av H x t) (e : clsT t = some u) : ClsV x u := by
  cases t with
  | ty n => cases h.ty; cases e; exact .ty n
  | cls a => cases h.cls; cases e; exact .own a
  | _ => cases e
/-- isinstance of what is no own object, of one class -/
def vIsi (K : PySem.W.Frag) (ts : List T) (P : PV → Prop) : Prop := ∃ s c n u b, ts = [s, c] ∧ tyOfT s = some n ∧ clsT c = some u ∧ PySem.W.kitOne K (.type n) u = some b ∧ P (.sh (.bl b))
theorem cls_isi : CallS (rIsi K) (vIsi K) := by
  rintro av H xs ts Q P lv hx ⟨s, c, n, u, b, rfl, e1, e2, e3, q⟩ k
  obtain ⟨x, y, rfl, hx1, hy⟩ := hx.two
  exact ⟨x, y, _, u, b, rfl, clsv_of hy e2, tyx_of hx1 e1, e3, k _ _ _ q (Nw.here (.bl _))⟩
/-! join -/
def vJoin (s : T) (ts : List T) (P : PV → Prop) : Prop := ∃ (a : Str) (us : List T) (ys : List Str), s = .str a ∧ ts = [.lst (ys.map T.str)] ∧ (ys.map (·.length)).sum + ys.length * a.length ≤ 16777216 ∧ P (.sh (.str (Txt.join a ys)))
theorem mts_join : MtS (rJoin K) vJoin := by
  rintro av H x s xs ts Q P lv hx hxs ⟨a, us, ys, rfl, rfl, l, q⟩ k
  obtain ⟨y, rfl, hy⟩ := hxs.one
  obtain ⟨b, vs, rfl, e1, d⟩ := hy.lst
  obtain rfl := d.strs
  exact ⟨a, b, ys, hx.str, rfl, .inl (SqL.of e1), l, k _ _ _ q (Nw.here (.str _))⟩
/-! list(range(..)) -/
abbrev LRg := Env → (Int → Int → Env → Prop) → Prop
def SndRg (G : Gh) (t : St → Hp → (Int → Int → Hp → Prop) → Prop) (l : LRg) : Prop := ∀ (ρ : Env) (σ : St) (S : Stk) (H : Hp) (Q : Int → Int → Hp → Prop) (P : Int → Int → Env → Prop), R G ρ σ S H → l ρ P → (∀ a b ρ' H', P a b ρ' → R G ρ' σ S H' → Q a b H') → t σ H Q
def lRg1 (la : LE) : LRg := fun ρ P => la ρ fun p ρ1 => ∃ n, val ρ1 p = some (.int n) ∧ P 0 n ρ1
theorem sn_rg1 {ta : TE} {la : LE} (h : Snd G ta la) : SndRg G (tRg1 ta) (lRg1 la) := by
  intro ρ σ S H Q P r q k
  refine h ρ σ S H _ _ r q fun p ρ1 x H1 q1 R1 => ?_
  obtain ⟨n, e, q1⟩ := q1
  obtain ⟨w, R1⟩ := R1
  exact ⟨n, (R1.rk R1.top e).int, k _ _ _ _ q1 ⟨w, R1.pop⟩⟩
def lRg2 (la lb : LE) : LRg := fun ρ P => la ρ fun p ρ1 => lb ρ1 fun q ρ2 => ∃ i j, val ρ2 p = some (.int i) ∧ val ρ2 q = some (.int j) ∧ P i j ρ2
theorem sn_rg2 {ta tb : TE} {la lb : LE} (ha : Snd G ta la) (hb : Snd G tb lb) : SndRg G (tRg2 ta tb) (lRg2 la lb) := by
  intro ρ σ S H Q P r q k
  refine ha ρ σ S H _ _ r q fun p ρ1 x H1 q1 R1 => ?_
  refine hb ρ1 σ _ H1 _ _ R1 q1 fun u ρ2 y H2 q2 R2 => ?_
  obtain ⟨i, j, e1, e2, q2⟩ := q2
  obtain ⟨w, R2⟩ := R2
  exact ⟨i, j, (R2.rk R2.stk.2.1 e1).int, (R2.rk R2.top e2).int, k _ _ _ _ q2 ⟨w, R2.pop.pop⟩⟩
theorem rgV_dns {av : Addr → Prop} {H : Hp} (a b : Int) : Dns av H (rgV a b) (rngT a (b - a).toNat) := by
  unfold rgV rngT
  generalize List.range (b - a).toNat = l
  induction l with
  | nil => exact .nil
  | cons x l ih => exact .cons (.int _) ih
def lLstRg (l : LRg) : LE := fun ρ Q => l ρ fun a b ρ1 => RgOk a b ∧ Q (.ow (.lst (rngT a (b - a).toNat))) ρ1
theorem sn_lstRg {t : St → Hp → (Int → Int → Hp → Prop) → Prop} {l : LRg} (h : SndRg G t l) : Snd G (tLstRg t) (lLstRg l) := by
  intro ρ σ S H Q P r q k
  refine h ρ σ S H _ _ r q fun a b ρ1 H1 q1 R1 => ?_
  obtain ⟨ok, q1⟩ := q1
  obtain ⟨w, R1⟩ := R1
  exact ⟨ok, fun p hp => k _ _ _ _ q1 (R1.res (Nw.lst hp (rgV_dns a b)))⟩
end
end LP
end
section
set_option maxRecDepth 100000
set_option maxHeartbeats 4000000
namespace LP
open PySem L2 LH
/-! ### one step each -/
section
variable {ρ ρ2 ρ3 : Env} {Q : PV → Env → Prop} {p q r : PV} {s t u : T} {ts : List T} {L : LEnds} {la lb lc le ld ly lv lo li : LE} {K : PySem.W.Frag}
theorem w_var {i : Nat} (e : rdv i (ρ[i]?) = some p) (h : Q p ρ) : lVar i ρ Q := ⟨p, e, h⟩
theorem w_c (h : Q (.sh t) ρ) : lC t ρ Q := h
def kOp (lr : T → T → (PV → Prop) → Prop) (p q : PV) (ρ : Env) (Q : PV → Env → Prop) : Prop := ∃ s t, val ρ p = some s ∧ val ρ q = some t ∧ lr s t fun r => Q r ρ
theorem w_op {lr : T → T → (PV → Prop) → Prop} (h : la ρ fun p ρ1 => lb ρ1 fun q ρ2 => kOp lr p q ρ2 Q) : lOp lr la lb ρ Q := h
theorem w_kop {lr : T → T → (PV → Prop) → Prop} (e1 : val ρ p = some s) (e2 : val ρ q = some t) (h : lr s t fun r => Q r ρ) : kOp lr p q ρ Q := ⟨s, t, e1, e2, h⟩
def kUn (lr : T → (PV → Prop) → Prop) (p : PV) (ρ : Env) (Q : PV → Env → Prop) : Prop := ∃ s, val ρ p = some s ∧ lr s fun r => Q r ρ
theorem w_un {lr : T → (PV → Prop) → Prop} (h : la ρ fun p ρ1 => kUn lr p ρ1 Q) : lUn lr la ρ Q := h
theorem w_kun {lr : T → (PV → Prop) → Prop} (e1 : val ρ p = some s) (h : lr s fun r => Q r ρ) : kUn lr p ρ Q := ⟨s, e1, h⟩
theorem w_nil {Q : List PV → Env → Prop} (h : Q [] ρ) : lNil ρ Q := h
theorem w_cons {lr : LA} {Q : List PV → Env → Prop} (h : la ρ fun p ρ1 => lr ρ1 fun ps ρ2 => Q (p :: ps) ρ2) : lCons la lr ρ Q := h
def kCB (lr : List T → (PV → Prop) → Prop) (ps : List PV) (ρ : Env) (Q : PV → Env → Prop) : Prop := ∃ ts, vals ρ ps = some ts ∧ lr ts fun r => Q r ρ
theorem w_cb {lr : List T → (PV → Prop) → Prop} {l : LA} (h : l ρ fun ps ρ1 => kCB lr ps ρ1 Q) : lCB lr l ρ Q := h
theorem w_kcb {lr : List T → (PV → Prop) → Prop} {ps : List PV} (e : vals ρ ps = some ts) (h : lr ts fun r => Q r ρ) : kCB lr ps ρ Q := ⟨ts, e, h⟩
def kLst (ps : List PV) (ρ : Env) (Q : PV → Env → Prop) : Prop := ∃ ts ρ2, frzs ρ ps = some (ts, ρ2) ∧ ts.length ≤ 1000 ∧ Q (.ow (.lst ts)) ρ2
theorem w_lst {l : LA} (h : l ρ fun ps ρ1 => kLst ps ρ1 Q) : lLst l ρ Q := h
theorem w_klst {ps : List PV} (e : frzs ρ ps = some (ts, ρ2)) (l : ts.length ≤ 1000) (h : Q (.ow (.lst ts)) ρ2) : kLst ps ρ Q := ⟨ts, ρ2, e, l, h⟩
def kTup (ps : List PV) (ρ : Env) (Q : PV → Env → Prop) : Prop := ∃ ts ρ2, frzs ρ ps = some (ts, ρ2) ∧ ts.length ≤ 1000 ∧ Q (.sh (.tup ts)) ρ2
theorem w_tup {l : LA} (h : l ρ fun ps ρ1 => kTup ps ρ1 Q) : lTup l ρ Q := h
theorem w_ktup {ps : List PV} (e : frzs ρ ps = some (ts, ρ2)) (l : ts.length ≤ 1000) (h : Q (.sh (.tup ts)) ρ2) : kTup ps ρ Q := ⟨ts, ρ2, e, l, h⟩
def kBl (p : PV) (Q : Bool → Prop) : Prop := ∃ b, p = .sh (.bl b) ∧ Q b
theorem w_kbl {b : Bool} {Q : Bool → Prop} (h : Q b) : kBl (.sh (.bl b)) Q := ⟨b, rfl, h⟩
theorem w_test {Q : Bool → Env → Prop} (h : le ρ fun p ρ1 => kBl p fun b => Q b ρ1) : lTest le ρ Q := h
def kTru (p : PV) (ρ : Env) (Q : Bool → Env → Prop) : Prop := ∃ t b, val ρ p = some t ∧ truT t = some b ∧ (∀ z, t = .str z → z.length ≤ 16777216) ∧ Q b ρ
theorem w_tru {Q : Bool → Env → Prop} (h : le ρ fun p ρ1 => kTru p ρ1 Q) : lTru le ρ Q := h
theorem w_ktru {Q : Bool → Env → Prop} {b : Bool} (e1 : val ρ p = some t) (e2 : truT t = some b) (l : ∀ z, t = .str z → z.length ≤ 16777216) (h : Q b ρ) : kTru p ρ Q := ⟨t, b, e1, e2, l, h⟩
theorem w_and {l m : LT} {Q : Bool → Env → Prop} (h : l ρ fun c ρ1 => if c = true then m ρ1 Q else Q false ρ1) : lAnd l m ρ Q := h
theorem w_or {l m : LT} {Q : Bool → Env → Prop} (h : l ρ fun c ρ1 => if c = true then Q true ρ1 else m ρ1 Q) : lOr l m ρ Q := h
theorem w_not {l : LT} {Q : Bool → Env → Prop} (h : l ρ fun c ρ1 => Q (!c) ρ1) : lNot l ρ Q := h
theorem w_yes {Q : Bool → Env → Prop} (h : Q true ρ) : lYes ρ Q := h
theorem w_andV (h : la ρ fun p ρ1 => kBl p fun c => if c = true then lb ρ1 Q else Q (.sh (.bl false)) ρ1) : lAndV la lb ρ Q := h
theorem w_orV (h : la ρ fun p ρ1 => kBl p fun c => if c = true then Q (.sh (.bl true)) ρ1 else lb ρ1 Q) : lOrV la lb ρ Q := h
theorem w_notV (h : la ρ fun p ρ1 => kBl p fun c => Q (.sh (.bl (!c))) ρ1) : lNotV la ρ Q := h
theorem w_if {l : LT} (h : l ρ fun c ρ1 => if c = true then la ρ1 Q else lb ρ1 Q) : lIf l la lb ρ Q := h
def kCh1 (lr lr' : T → T → (PV → Prop) → Prop) (lc : LE) (p q : PV) (ρ2 : Env) (Q : PV → Env → Prop) : Prop := ∃ s t, val ρ2 p = some s ∧ val ρ2 q = some t ∧ lr s t fun r => kBl r fun c => if c = true then lc ρ2 fun u ρ3 => kOp lr' q u ρ3 Q else Q (.sh (.bl false)) ρ2
theorem w_chain {lr lr' : T → T → (PV → Prop) → Prop} (h : la ρ fun p ρ1 => lb ρ1 fun q ρ2 => kCh1 lr lr' lc p q ρ2 Q) : lChain lr lr' la lb lc ρ Q := h
theorem w_kch1 {lr lr' : T → T → (PV → Prop) → Prop} (e1 : val ρ p = some s) (e2 : val ρ q = some t) (h : lr s t fun r => kBl r fun c => if c = true then lc ρ fun u ρ3 => kOp lr' q u ρ3 Q else Q (.sh (.bl false)) ρ) : kCh1 lr lr' lc p q ρ Q := ⟨s, t, e1, e2, h⟩
/-! dicts, fields, slices -/
def kDGet (p q : PV) (ρ : Env) (Q : PV → Env → Prop) : Prop := ∃ s u t, val ρ p = some s ∧ val ρ q = some u ∧ dgetT s u = some (some t) ∧ Q (.sh t) ρ
theorem w_dget (h : ld ρ fun p ρ1 => ly ρ1 fun q ρ2 => kDGet p q ρ2 Q) : lDGet ld ly ρ Q := h
theorem w_kdget (e1 : val ρ p = some s) (e2 : val ρ q = some u) (e3 : dgetT s u = some (some t)) (h : Q (.sh t) ρ) : kDGet p q ρ Q := ⟨s, u, t, e1, e2, e3, h⟩
def kDIn (neg : Bool) (q p : PV) (ρ : Env) (Q : PV → Env → Prop) : Prop := ∃ s u o, val ρ p = some s ∧ val ρ q = some u ∧ dgetT s u = some o ∧ Q (.sh (.bl (if neg then !o.isSome else o.isSome))) ρ
theorem w_din {neg : Bool} (h : ly ρ fun q ρ1 => ld ρ1 fun p ρ2 => kDIn neg q p ρ2 Q) : lDIn neg ly ld ρ Q := h
theorem w_kdin {o : Option T} (e1 : val ρ p = some s) (e2 : val ρ q = some u) (e3 : dgetT s u = some o) (h : Q (.sh (.bl o.isSome)) ρ) : kDIn false q p ρ Q := ⟨s, u, o, e1, e2, e3, h⟩
theorem w_kdnotin {o : Option T} (e1 : val ρ p = some s) (e2 : val ρ q = some u) (e3 : dgetT s u = some o) (h : Q (.sh (.bl (!o.isSome))) ρ) : kDIn true q p ρ Q := ⟨s, u, o, e1, e2, e3, h⟩
theorem w_dnew (h : Q (.ow (.dic [])) ρ) : lDNew ρ Q := h
theorem w_dnewT (h : Q (.ow (.dit [])) ρ) : lDNewT ρ Q := h
def kFld (K : PySem.W.Frag) (f : Str) (p : PV) (ρ : Env) (Q : PV → Env → Prop) : Prop := ∃ C ft t, val ρ p = some (.ins C ft) ∧ Cls K C ∧ NoAttr K C f ∧ ft.lookup f = some t ∧ Q (.sh t) ρ
theorem w_fld {f : Str} (h : la ρ fun p ρ1 => kFld K f p ρ1 Q) : lFld K f la ρ Q := h
theorem w_kfld {f : Str} {C : Addr} {ft : List (Str × T)} (e : val ρ p = some (.ins C ft)) (c : Cls K C) (n : NoAttr K C f) (e2 : ft.lookup f = some t) (h : Q (.sh t) ρ) : kFld K f p ρ Q := ⟨C, ft, t, e, c, n, e2, h⟩
theorem w_noPart {Q : Option Int → Env → Prop} (h : Q none ρ) : lNoPart ρ Q := h
def kPart (p : PV) (ρ : Env) (Q : Option Int → Env → Prop) : Prop := ∃ i, val ρ p = some (.int i) ∧ Q (some i) ρ
theorem w_part {Q : Option Int → Env → Prop} (h : le ρ fun p ρ1 => kPart p ρ1 Q) : lPart le ρ Q := h
theorem w_kpart {Q : Option Int → Env → Prop} {i : Int} (e : val ρ p = some (.int i)) (h : Q (some i) ρ) : kPart p ρ Q := ⟨i, e, h⟩
def kSl (lr : T → Option Int → Option Int → (PV → Prop) → Prop) (p : PV) (lo hi : Option Int) (ρ : Env) (Q : PV → Env → Prop) : Prop := ∃ s, val ρ p = some s ∧ lr s lo hi fun r => Q r ρ
theorem w_sl {lr : T → Option Int → Option Int → (PV → Prop) → Prop} {l1 l2 : LO} (h : le ρ fun p ρ1 => l1 ρ1 fun lo ρ2 => l2 ρ2 fun hi ρ3 => kSl lr p lo hi ρ3 Q) : lSl lr le l1 l2 ρ Q := h
theorem w_ksl {lr : T → Option Int → Option Int → (PV → Prop) → Prop} {lo hi : Option Int} (e : val ρ p = some s) (h : lr s lo hi fun r => Q r ρ) : kSl lr p lo hi ρ Q := ⟨s, e, h⟩
theorem w_vslL {lo hi : Option Int} {P : PV → Prop} (h : P (.ow (.lst (cutT ts lo hi)))) : vSlL (.lst ts) lo hi P := ⟨ts, rfl, h⟩
theorem w_vslS {lo hi : Option Int} {z : Str} {P : PV → Prop} (l : z.length ≤ 16777216) (h : P (.sh (.str (cutS z lo hi)))) : vSlS (.str z) lo hi P := ⟨z, rfl, l, h⟩
def kRev (p : PV) (ρ : Env) (Q : PV → Env → Prop) : Prop := ∃ ts, val ρ p = some (.lst ts) ∧ Q (.ow (.lst ts.reverse)) ρ
theorem w_rev (h : le ρ fun p ρ1 => kRev p ρ1 Q) : lRevL le ρ Q := h
theorem w_krev (e : val ρ p = some (.lst ts)) (h : Q (.ow (.lst ts.reverse)) ρ) : kRev p ρ Q := ⟨ts, e, h⟩
/-! methods -/
def kBM1 (n : String) (lr : T → List T → (PV → Prop) → Prop) (l : LA) (p : PV) (ρ1 : Env) (Q : PV → Env → Prop) : Prop := ∃ s, val ρ1 p = some s ∧ tyT n s ∧ l ρ1 fun ps ρ2 => ∃ s2 ts, val ρ2 p = some s2 ∧ vals ρ2 ps = some ts ∧ lr s2 ts fun r => Q r ρ2
def kBM2 (lr : T → List T → (PV → Prop) → Prop) (p : PV) (ps : List PV) (ρ2 : Env) (Q : PV → Env → Prop) : Prop := ∃ s2 ts, val ρ2 p = some s2 ∧ vals ρ2 ps = some ts ∧ lr s2 ts fun r => Q r ρ2
theorem w_bm {n : String} {lr : T → List T → (PV → Prop) → Prop} {l : LA} (h : lo ρ fun p ρ1 => kBM1 n lr l p ρ1 Q) : lBM n lr lo l ρ Q := h
theorem w_kbm1 {n : String} {lr : T → List T → (PV → Prop) → Prop} {l : LA} (e : val ρ p = some s) (ty : tyT n s) (h : l ρ fun ps ρ2 => kBM2 lr p ps ρ2 Q) : kBM1 n lr l p ρ Q := ⟨s, e, ty, h⟩
theorem w_kbm2 {lr : T → List T → (PV → Prop) → Prop} {ps : List PV} (e : val ρ p = some s) (e2 : vals ρ ps = some ts) (h : lr s ts fun r => Q r ρ) : kBM2 lr p ps ρ Q := ⟨s, ts, e, e2, h⟩
def kStr (p : PV) (Q : Str → Prop) : Prop := ∃ z, p = .sh (.str z) ∧ Q z
theorem w_kstr {z : Str} {Q : Str → Prop} (h : Q z) : kStr (.sh (.str z)) Q := ⟨z, rfl, h⟩
def kM1 (lr : T → List T → (PV → Prop) → Prop) (z : Str) (q : PV) (ρ2 : Env) (Q : PV → Env → Prop) : Prop := ∃ t, val ρ2 q = some t ∧ lr (.str z) [t] fun r => Q r ρ2
theorem w_m1 {lr : T → List T → (PV → Prop) → Prop} (h : lo ρ fun p ρ1 => kStr p fun z => le ρ1 fun q ρ2 => kM1 lr z q ρ2 Q) : lM1 lr lo le ρ Q := h
theorem w_km1 {lr : T → List T → (PV → Prop) → Prop} {z : Str} (e : val ρ q = some t) (h : lr (.str z) [t] fun r => Q r ρ) : kM1 lr z q ρ Q := ⟨t, e, h⟩
/-! statements -/
theorem w_start {ls : LS} (e : ρ = ρ2) (h : ls L ρ2) : ls L ρ := by rw [e]; exact h
theorem w_next (h : L.nx ρ) : lNext L ρ := h
theorem w_break (h : L.bk ρ) : lBreak L ρ := h
theorem w_cont (h : L.ct ρ) : lCont L ρ := h
theorem w_seq {l m : LS} (h : l { L with nx := m L } ρ) : lSeq l m L ρ := h
theorem w_cut {l m : LS} (M : Env → Prop) (h : l { L with nx := M } ρ) (k : ∀ ρ', M ρ' → m L ρ') : lCut l m L ρ := ⟨M, h, k⟩
/-- nothing is lost by going on straight -/
theorem w_cutS {l m : LS} (h : l { L with nx := m L } ρ) : lCut l m L ρ := ⟨m L, h, fun _ z => z⟩
theorem w_ifS {c : LT} {l m : LS} (h : c ρ fun b ρ1 => if b = true then l L ρ1 else m L ρ1) : lIfS c l m L ρ := h
theorem w_ret (h : le ρ L.rt) : lRet le L ρ := h
theorem w_retN (h : L.rt (.sh .non) ρ) : lRetN L ρ := h
theorem w_drop (h : le ρ fun _ ρ1 => L.nx ρ1) : lDrop le L ρ := h
def kAsg (p : PV) (i : Nat) (ρ : Env) (Q : Env → Prop) : Prop := ∃ q ρ2, stv ρ p = some (q, ρ2) ∧ Q (ρ2.set i (some q))
theorem w_asg {i : Nat} (h : le ρ fun p ρ1 => kAsg p i ρ1 L.nx) : lAsg le i L ρ := h
theorem w_kasg {i : Nat} {Q : Env → Prop} (e : stv ρ p = some (q, ρ2)) (e2 : ρ2.set i (some q) = ρ3) (h : Q ρ3) : kAsg p i ρ Q := ⟨q, ρ2, e, by rw [e2]; exact h⟩
def kAsgG (p : PV) (g : LG) (ρ : Env) (Q : Env → Prop) : Prop := ∃ t ρ2, frz ρ p = some (t, ρ2) ∧ g t ρ2 Q
theorem w_asgG {g : LG} (h : le ρ fun p ρ1 => kAsgG p g ρ1 L.nx) : lAsgG le g L ρ := h
theorem w_kasgG {g : LG} {Q : Env → Prop} (e : frz ρ p = some (t, ρ2)) (h : g t ρ2 Q) : kAsgG p g ρ Q := ⟨t, ρ2, e, h⟩
theorem w_gName {i : Nat} {Q : Env → Prop} (e : ρ.set i (some (.sh t)) = ρ2) (h : Q ρ2) : lgName i t ρ Q := by unfold lgName; rw [e]; exact h
theorem w_gNil {Q : Env → Prop} (h : Q ρ) : lgNil [] ρ Q := ⟨rfl, h⟩
theorem w_gCons {g : LG} {gs : LGs} {Q : Env → Prop} (h : g t ρ fun ρ1 => gs ts ρ1 Q) : lgCons g gs (t :: ts) ρ Q := ⟨t, ts, rfl, h⟩
theorem w_gTup {k : Nat} {gs : LGs} {Q : Env → Prop} (l : ts.length = k) (h : gs ts ρ Q) : lgTup k gs (.tup ts) ρ Q := ⟨ts, rfl, l, h⟩
def kPar (ps : List PV) (i j : Nat) (ρ1 : Env) (Q : Env → Prop) : Prop := ∃ p q s ρ2 q' ρ3, ps = [p, q] ∧ stv ρ1 q = some (q', ρ2) ∧ stv (ρ2.set j (some q')) p = some (s, ρ3) ∧ (∀ k, p ≠ .al k) ∧ Q (ρ3.set i (some s))
theorem w_par {l : LA} {i j : Nat} (h : l ρ fun ps ρ1 => kPar ps i j ρ1 L.nx) : lPar l i j L ρ := h
theorem w_kpar {i j : Nat} {Q : Env → Prop} {s q' : PV} {ρ4 : Env} (e1 : stv ρ q = some (q', ρ2)) (e2 : stv (ρ2.set j (some q')) p = some (s, ρ3)) (n : ∀ k, p ≠ .al k) (e3 : ρ3.set i (some s) = ρ4) (h : Q ρ4) : kPar [p, q] i j ρ Q := ⟨p, q, s, ρ2, q', ρ3, rfl, e1, e2, n, by rw [e3]; exact h⟩
/-! what is ours changes -/
def kMut1 (lm : List T → List T → (List T → T → Prop) → Prop) (l : LA) (p : PV) (ρ1 : Env) (Q : PV → Env → Prop) : Prop := ∃ i ts0, p = .al i ∧ ρ1[i]? = some (some (.ow (.lst ts0))) ∧ l ρ1 fun ps ρ2 => ∃ as ρ3 ts, frzs ρ2 ps = some (as, ρ3) ∧ ρ3[i]? = some (some (.ow (.lst ts))) ∧ lm ts as fun ts' u => Q (.sh u) (ρ3.set i (some (.ow (.lst ts'))))
def kMut2 (lm : List T → List T → (List T → T → Prop) → Prop) (i : Nat) (ps : List PV) (ρ2 : Env) (Q : PV → Env → Prop) : Prop := ∃ as ρ3 ts, frzs ρ2 ps = some (as, ρ3) ∧ ρ3[i]? = some (some (.ow (.lst ts))) ∧ lm ts as fun ts' u => Q (.sh u) (ρ3.set i (some (.ow (.lst ts'))))
theorem w_mut {lm : List T → List T → (List T → T → Prop) → Prop} {l : LA} (h : lo ρ fun p ρ1 => kMut1 lm l p ρ1 Q) : lMut lm lo l ρ Q := h
theorem w_kmut1 {lm : List T → List T → (List T → T → Prop) → Prop} {l : LA} {i : Nat} (e : ρ[i]? = some (some (.ow (.lst ts)))) (h : l ρ fun ps ρ2 => kMut2 lm i ps ρ2 Q) : kMut1 lm l (.al i) ρ Q := ⟨i, ts, rfl, e, h⟩
theorem w_kmut2 {lm : List T → List T → (List T → T → Prop) → Prop} {i : Nat} {ps : List PV} {as : List T} (e : frzs ρ ps = some (as, ρ2)) (e2 : ρ2[i]? = some (some (.ow (.lst ts)))) (h : lm ts as fun ts' u => Q (.sh u) (ρ2.set i (some (.ow (.lst ts'))))) : kMut2 lm i ps ρ Q := ⟨as, ρ2, ts, e, e2, h⟩
def kMut0 (lm : List T → List T → (List T → T → Prop) → Prop) (p : PV) (ρ1 : Env) (Q : PV → Env → Prop) : Prop := ∃ i ts, p = .al i ∧ ρ1[i]? = some (some (.ow (.lst ts))) ∧ lm ts [] fun ts' u => Q (.sh u) (ρ1.set i (some (.ow (.lst ts'))))
theorem w_mut0 {lm : List T → List T → (List T → T → Prop) → Prop} (h : lo ρ fun p ρ1 => kMut0 lm p ρ1 Q) : lMut0 lm lo ρ Q := h
theorem w_kmut0 {lm : List T → List T → (List T → T → Prop) → Prop} {i : Nat} (e : ρ[i]? = some (some (.ow (.lst ts)))) (h : lm ts [] fun ts' u => Q (.sh u) (ρ.set i (some (.ow (.lst ts'))))) : kMut0 lm (.al i) ρ Q := ⟨i, ts, rfl, e, h⟩
theorem w_append {P : List T → T → Prop} (l : ts.length < 16777216) (h : P (ts ++ [t]) .non) : mAppend ts [t] P := ⟨t, rfl, l, h⟩
theorem w_clear {P : List T → T → Prop} (h : P [] .non) : mClear ts [] P := ⟨rfl, h⟩
theorem w_reverse {P : List T → T → Prop} (h : P ts.reverse .non) : mReverse ts [] P := ⟨rfl, h⟩
theorem w_extend {P : List T → T → Prop} {us : List T} (l : ts.length + us.length ≤ 16777216) (h : P (ts ++ us) .non) : mExtend ts [.lst us] P := ⟨us, rfl, l, h⟩
theorem w_popAt {P : List T → T → Prop} {i : Int} {j : Nat} (h1 : -(2 ^ 63) ≤ i) (h2 : i < 2 ^ 63) (e : seqIndex? i ts.length = some j) (e2 : ts[j]? = some t) (h : P (ts.eraseIdx j) t) : mPopAt ts [.int i] P := ⟨i, j, t, rfl, h1, h2, e, e2, h⟩
theorem w_pop {P : List T → T → Prop} (e2 : ts[ts.length - 1]? = some t) (h : P ts.dropLast t) : mPop ts [] P := ⟨t, rfl, e2, h⟩
def kDPut (pv pd pk : PV) (ρ3 : Env) (Q : Env → Prop) : Prop := ∃ i t ρ4 y s s', pd = .al i ∧ frz ρ3 pv = some (t, ρ4) ∧ val ρ4 pk = some y ∧ ρ4[i]? = some (some (.ow s)) ∧ dputT s y t = some s' ∧ sizeT s < 16777216 ∧ Q (ρ4.set i (some (.ow s')))
theorem w_dput (h : lv ρ fun pv ρ1 => ld ρ1 fun pd ρ2 => ly ρ2 fun pk ρ3 => kDPut pv pd pk ρ3 L.nx) : lDPut ld ly lv L ρ := h
theorem w_kdput {pv pk : PV} {i : Nat} {y s' : T} {Q : Env → Prop} (e1 : frz ρ pv = some (t, ρ2)) (e2 : val ρ2 pk = some y) (e3 : ρ2[i]? = some (some (.ow s))) (e4 : dputT s y t = some s') (l : sizeT s < 16777216) (e5 : ρ2.set i (some (.ow s')) = ρ3) (h : Q ρ3) : kDPut pv (.al i) pk ρ Q := ⟨i, t, ρ2, y, s, s', rfl, e1, e2, e3, e4, l, by rw [e5]; exact h⟩
def kSetL1 (lo li : LE) (pv : PV) (ρ1 : Env) (Q : Env → Prop) : Prop := ∃ t ρ2, frz ρ1 pv = some (t, ρ2) ∧ lo ρ2 fun po ρ3 => li ρ3 fun pi ρ4 => ∃ i k j ts, po = .al i ∧ val ρ4 pi = some (.int k) ∧ ρ4[i]? = some (some (.ow (.lst ts))) ∧ ixN ts.length k = some j ∧ Q (ρ4.set i (some (.ow (.lst (ts.set j t)))))
def kSetL2 (t : T) (po pi : PV) (ρ4 : Env) (Q : Env → Prop) : Prop := ∃ i k j ts, po = .al i ∧ val ρ4 pi = some (.int k) ∧ ρ4[i]? = some (some (.ow (.lst ts))) ∧ ixN ts.length k = some j ∧ Q (ρ4.set i (some (.ow (.lst (ts.set j t)))))
theorem w_setL (h : le ρ fun pv ρ1 => kSetL1 lo li pv ρ1 L.nx) : lSetL lo li le L ρ := h
theorem w_ksetL1 {pv : PV} {Q : Env → Prop} (e : frz ρ pv = some (t, ρ2)) (h : lo ρ2 fun po ρ3 => li ρ3 fun pi ρ4 => kSetL2 t po pi ρ4 Q) : kSetL1 lo li pv ρ Q := ⟨t, ρ2, e, h⟩
theorem w_ksetL2 {pi : PV} {i j : Nat} {k : Int} {Q : Env → Prop} (e1 : val ρ pi = some (.int k)) (e2 : ρ[i]? = some (some (.ow (.lst ts)))) (e3 : ixN ts.length k = some j) (e4 : ρ.set i (some (.ow (.lst (ts.set j t)))) = ρ2) (h : Q ρ2) : kSetL2 t (.al i) pi ρ Q := ⟨i, k, j, ts, rfl, e1, e2, e3, by rw [e4]; exact h⟩
def kAug (i : Nat) (lr : T → T → (PV → Prop) → Prop) (p : PV) (ρ1 : Env) (Q : Env → Prop) : Prop := ∃ s t, ρ1[i]? = some (some (.sh s)) ∧ val ρ1 p = some t ∧ lr s t fun r => ∃ u, r = .sh u ∧ Q (ρ1.set i (some (.sh u)))
def kSh (r : PV) (Q : T → Prop) : Prop := ∃ u, r = .sh u ∧ Q u
theorem w_ksh {Q : T → Prop} (h : Q u) : kSh (.sh u) Q := ⟨u, rfl, h⟩
theorem w_aug {i : Nat} {lr : T → T → (PV → Prop) → Prop} (e : ρ[i]? = some (some (.sh s))) (h : le ρ fun p ρ1 => kAug i lr p ρ1 L.nx) : lAug i lr le L ρ := ⟨⟨s, e⟩, h⟩
def kSetE (ρ : Env) (Q : Env → Prop) : Prop := Q ρ
theorem w_kset {Q : Env → Prop} (e : ρ = ρ2) (h : Q ρ2) : kSetE ρ Q := by subst e; exact h
theorem w_kaug {i : Nat} {lr : T → T → (PV → Prop) → Prop} {Q : Env → Prop} (e1 : ρ[i]? = some (some (.sh s))) (e2 : val ρ p = some t) (h : lr s t fun r => kSh r fun u => kSetE (ρ.set i (some (.sh u))) Q) : kAug i lr p ρ Q := ⟨s, t, e1, e2, h⟩
/-! calls -/
def kCall0 (lsp : LSp) (ps : List PV) (ρ1 : Env) (Q : PV → Env → Prop) : Prop := ∃ ts ρ2, frzs ρ1 ps = some (ts, ρ2) ∧ lsp ts (fun p _ => Q p ρ2) (fun _ _ _ => False)
theorem w_call0 {lsp : LSp} {l : LA} (h : l ρ fun ps ρ1 => kCall0 lsp ps ρ1 Q) : lCall0 lsp l ρ Q := h
theorem w_kcall0 {lsp : LSp} {ps : List PV} (e : frzs ρ ps = some (ts, ρ2)) (h : lsp ts (fun p _ => Q p ρ2) (fun _ _ _ => False)) : kCall0 lsp ps ρ Q := ⟨ts, ρ2, e, h⟩
def kHd (ps : List PV) (Q : Nat → List PV → Prop) : Prop := ∃ i ps', ps = .al i :: ps' ∧ Q i ps'
theorem w_khd {i : Nat} {ps : List PV} {Q : Nat → List PV → Prop} (h : Q i ps) : kHd (.al i :: ps) Q := ⟨i, ps, rfl, h⟩
theorem w_call1 {lsp : LSp} {l : LA} (h : l ρ fun ps ρ1 => kHd ps fun i ps' => call1 lsp i ps' ρ1 Q) : lCall1 lsp l ρ Q := h
theorem w_kcall1 {lsp : LSp} {i : Nat} {ps : List PV} {m : T → PV} (e : frzs ρ ps = some (ts, ρ2)) (e2 : ownAt (ρ2[i]?) = some (t, m)) (h : lsp (t :: ts) (fun p t' => kSetE (ρ2.set i (some (m t'))) fun ρ3 => Q p ρ3) (fun _ _ _ => False)) : call1 lsp i ps ρ Q := ⟨ts, ρ2, t, m, e, e2, h⟩
def kMeth0 (C : Addr) (m : Str) (lsp : LSp) (l : LA) (p : PV) (ρ1 : Env) (Q : PV → Env → Prop) : Prop := ∃ ft, val ρ1 p = some (.ins C ft) ∧ ft.lookup m = none ∧ l ρ1 fun ps ρ2 => ∃ ts ρ3, frzs ρ2 (p :: ps) = some (ts, ρ3) ∧ lsp ts (fun p _ => Q p ρ3) (fun _ _ _ => False)
theorem w_meth0 {C : Addr} {m : Str} {lsp : LSp} {l : LA} (h : la ρ fun p ρ1 => kMeth0 C m lsp l p ρ1 Q) : lMeth0 C m lsp la l ρ Q := h
theorem w_kmeth0 {C : Addr} {m : Str} {lsp : LSp} {l : LA} {ft : List (Str × T)} (e : val ρ p = some (.ins C ft)) (e2 : ft.lookup m = none) (h : l ρ fun ps ρ2 => kCall0 lsp (p :: ps) ρ2 Q) : kMeth0 C m lsp l p ρ Q := ⟨ft, e, e2, h⟩
def kMeth1 (C : Addr) (m : Str) (lsp : LSp) (l : LA) (p : PV) (ρ1 : Env) (Q : PV → Env → Prop) : Prop := ∃ i t md, p = .al i ∧ ownAt (ρ1[i]?) = some (t, md) ∧ OpqIns C m t ∧ l ρ1 fun ps ρ2 => call1 lsp i ps ρ2 Q
theorem w_meth1 {C : Addr} {m : Str} {lsp : LSp} {l : LA} (h : la ρ fun p ρ1 => kMeth1 C m lsp l p ρ1 Q) : lMeth1 C m lsp la l ρ Q := h
theorem w_kmeth1 {C : Addr} {m : Str} {lsp : LSp} {l : LA} {i : Nat} {md : T → PV} (e : ownAt (ρ[i]?) = some (t, md)) (o : OpqIns C m t) (h : l ρ fun ps ρ2 => call1 lsp i ps ρ2 Q) : kMeth1 C m lsp l (.al i) ρ Q := ⟨i, t, md, rfl, e, o, h⟩
def kMethT (C : Addr) (m : Str) (lsp : LSp) (l : LA) (p : PV) (ρ1 : Env) (Q : PV → Env → Prop) : Prop := ∃ u, p = .ow u ∧ OpqIns C m u ∧ l ρ1 fun ps ρ2 => ∃ ts ρ3, frzs ρ2 ps = some (ts, ρ3) ∧ lsp (u :: ts) (fun p _ => Q p ρ3) (fun _ _ _ => False)
def kCallT (lsp : LSp) (u : T) (ps : List PV) (ρ2 : Env) (Q : PV → Env → Prop) : Prop := ∃ ts ρ3, frzs ρ2 ps = some (ts, ρ3) ∧ lsp (u :: ts) (fun p _ => Q p ρ3) (fun _ _ _ => False)
theorem w_methT {C : Addr} {m : Str} {lsp : LSp} {l : LA} (h : la ρ fun p ρ1 => kMethT C m lsp l p ρ1 Q) : lMethT C m lsp la l ρ Q := h
theorem w_kmethT {C : Addr} {m : Str} {lsp : LSp} {l : LA} (o : OpqIns C m u) (h : l ρ fun ps ρ2 => kCallT lsp u ps ρ2 Q) : kMethT C m lsp l (.ow u) ρ Q := ⟨u, rfl, o, h⟩
theorem w_kcallT {lsp : LSp} {ps : List PV} (e : frzs ρ ps = some (ts, ρ2)) (h : lsp (u :: ts) (fun p _ => Q p ρ2) (fun _ _ _ => False)) : kCallT lsp u ps ρ Q := ⟨ts, ρ2, e, h⟩
def kMake (lm : List T → (T → Prop) → Prop) (ps : List PV) (ρ1 : Env) (Q : PV → Env → Prop) : Prop := ∃ ts ρ2, frzs ρ1 ps = some (ts, ρ2) ∧ lm ts fun t => Q (.ow t) ρ2
theorem w_make {lm : List T → (T → Prop) → Prop} {l : LA} (h : l ρ fun ps ρ1 => kMake lm ps ρ1 Q) : lMake lm l ρ Q := h
theorem w_kmake {lm : List T → (T → Prop) → Prop} {ps : List PV} (e : frzs ρ ps = some (ts, ρ2)) (h : lm ts fun t => Q (.ow t) ρ2) : kMake lm ps ρ Q := ⟨ts, ρ2, e, h⟩
theorem w_end {io : Bool} {q' : PV → T → Prop} (e1 : ioT io ρ = some t) (e2 : resT ρ p = some r) (h : q' r t) : kEnd io q' p ρ := ⟨t, r, e1, e2, h⟩
/-! loops -/
def kFor (lg : LG) (lb : LS) (L : LEnds) (ts : List T) (ρ1 : Env) : Prop := ∃ I : Nat → Env → Prop, I 0 ρ1 ∧ (∀ k t ρ2, ts[k]? = some t → I k ρ2 → lg t ρ2 fun ρ3 => lb { L with nx := I (k + 1), ct := I (k + 1), bk := L.nx } ρ3) ∧ ∀ ρ2, I ts.length ρ2 → L.nx ρ2
theorem w_for {li : LI} {lg : LG} {lb : LS} (h : li ρ fun ts ρ1 => kFor lg lb L ts ρ1) : lFor li lg lb L ρ := h
theorem w_kfor {lg : LG} {lb : LS} (I : Nat → Env → Prop) (h0 : I 0 ρ) (h1 : ∀ k t ρ2, ts[k]? = some t → I k ρ2 → lg t ρ2 fun ρ3 => lb { L with nx := I (k + 1), ct := I (k + 1), bk := L.nx } ρ3) (h2 : ∀ ρ2, I ts.length ρ2 → L.nx ρ2) : kFor lg lb L ts ρ := ⟨I, h0, h1, h2⟩
/-- over lo, lo + 1, .. -/
theorem w_kforR {lg : LG} {lb : LS} {lo : Int} {n : Nat} (I : Nat → Env → Prop) (h0 : I 0 ρ) (h1 : ∀ k ρ2, k < n → I k ρ2 → lg (.int (lo + (k : Int))) ρ2 fun ρ3 => lb { L with nx := I (k + 1), ct := I (k + 1), bk := L.nx } ρ3) (h2 : ∀ ρ2, I n ρ2 → L.nx ρ2) : kFor lg lb L (rngT lo n) ρ :=
  ⟨I, h0, fun k t ρ2 ht hI => by obtain ⟨rfl, hk⟩ := rngT_get ht; exact h1 k ρ2 hk hI, by rw [rngT_len]; exact h2⟩
theorem w_kforR0 {lg : LG} {lb : LS} {n : Nat} (I : Nat → Env → Prop) (h0 : I 0 ρ) (h1 : ∀ k ρ2, k < n → I k ρ2 → lg (.int (k : Int)) ρ2 fun ρ3 => lb { L with nx := I (k + 1), ct := I (k + 1), bk := L.nx } ρ3) (h2 : ∀ ρ2, I n ρ2 → L.nx ρ2) : kFor lg lb L (rngT 0 n) ρ :=
  w_kforR I h0 (fun k ρ2 hk hI => by rw [Int.zero_add]; exact h1 k ρ2 hk hI) h2
/-- over what stands for other things -/
theorem w_kforM {α : Type} {f : α → T} {xs : List α} {lg : LG} {lb : LS} (I : Nat → Env → Prop) (h0 : I 0 ρ) (h1 : ∀ k x ρ2, xs[k]? = some x → I k ρ2 → lg (f x) ρ2 fun ρ3 => lb { L with nx := I (k + 1), ct := I (k + 1), bk := L.nx } ρ3) (h2 : ∀ ρ2, I xs.length ρ2 → L.nx ρ2) : kFor lg lb L (xs.map f) ρ := by
  refine ⟨I, h0, fun k t ρ2 ht hI => ?_, by rw [List.length_map]; exact h2⟩
  rw [List.getElem?_map] at ht
  cases e : xs[k]? with
  | none => rw [e] at ht; cases ht
  | some x => rw [e] at ht; cases ht; exact h1 k x ρ2 e hI
def kLi (p : PV) (ρ1 : Env) (P : List T → Env → Prop) : Prop := ∃ ts ρ2, frz ρ1 p = some (.lst ts, ρ2) ∧ P ts ρ2
theorem w_list {P : List T → Env → Prop} (h : le ρ fun p ρ1 => kLi p ρ1 P) : lList le ρ P := h
theorem w_kli {P : List T → Env → Prop} (e : frz ρ p = some (.lst ts, ρ2)) (h : P ts ρ2) : kLi p ρ P := ⟨ts, ρ2, e, h⟩
def kTi (p : PV) (ρ1 : Env) (P : List T → Env → Prop) : Prop := ∃ ts ρ2, frz ρ1 p = some (.tup ts, ρ2) ∧ P ts ρ2
theorem w_tupI {P : List T → Env → Prop} (h : le ρ fun p ρ1 => kTi p ρ1 P) : lTupI le ρ P := h
theorem w_kti {P : List T → Env → Prop} (e : frz ρ p = some (.tup ts, ρ2)) (h : P ts ρ2) : kTi p ρ P := ⟨ts, ρ2, e, h⟩
def kSq (p : PV) (ρ1 : Env) (P : List T → Env → Prop) : Prop := ∃ t ts ρ2, frz ρ1 p = some (t, ρ2) ∧ sqT t = some ts ∧ P ts ρ2
theorem w_sq {P : List T → Env → Prop} (h : le ρ fun p ρ1 => kSq p ρ1 P) : lSq le ρ P := h
theorem w_ksq {P : List T → Env → Prop} (e : frz ρ p = some (t, ρ2)) (e2 : sqT t = some ts) (h : P ts ρ2) : kSq p ρ P := ⟨t, ts, ρ2, e, e2, h⟩
def kR1 (ps : List PV) (ρ1 : Env) (P : List T → Env → Prop) : Prop := ∃ j : Int, vals ρ1 ps = some [.int j] ∧ -(2 ^ 62) ≤ j ∧ j < 2 ^ 62 ∧ P (rngT 0 j.toNat) ρ1
theorem w_rng1 {l : LA} {P : List T → Env → Prop} (h : l ρ fun ps ρ1 => kR1 ps ρ1 P) : lRng1 l ρ P := h
theorem w_kr1 {ps : List PV} {P : List T → Env → Prop} {j : Int} (e : vals ρ ps = some [.int j]) (b : -(2 ^ 62) ≤ j ∧ j < 2 ^ 62) (h : P (rngT 0 j.toNat) ρ) : kR1 ps ρ P := ⟨j, e, b.1, b.2, h⟩
def kR2 (ps : List PV) (ρ1 : Env) (P : List T → Env → Prop) : Prop := ∃ i j : Int, vals ρ1 ps = some [.int i, .int j] ∧ (-(2 ^ 62) ≤ i ∧ i < 2 ^ 62 ∧ -(2 ^ 62) ≤ j ∧ j < 2 ^ 62) ∧ P (rngT i (j - i).toNat) ρ1
theorem w_rng2 {l : LA} {P : List T → Env → Prop} (h : l ρ fun ps ρ1 => kR2 ps ρ1 P) : lRng2 l ρ P := h
theorem w_kr2 {ps : List PV} {P : List T → Env → Prop} {i j : Int} (e : vals ρ ps = some [.int i, .int j]) (b : -(2 ^ 62) ≤ i ∧ i < 2 ^ 62 ∧ -(2 ^ 62) ≤ j ∧ j < 2 ^ 62) (h : P (rngT i (j - i).toNat) ρ) : kR2 ps ρ P := ⟨i, j, e, b, h⟩
def kStI (p : PV) (ρ1 : Env) (P : List T → Env → Prop) : Prop := ∃ z, val ρ1 p = some (.str z) ∧ P (sgnT z) ρ1
theorem w_strI {P : List T → Env → Prop} (h : le ρ fun p ρ1 => kStI p ρ1 P) : lStrI le ρ P := h
theorem w_ksti {P : List T → Env → Prop} {z : Str} (e : val ρ p = some (.str z)) (h : P (sgnT z) ρ) : kStI p ρ P := ⟨z, e, h⟩
def kEnI (ps : List PV) (ρ1 : Env) (P : List T → Env → Prop) : Prop := ∃ ts ρ2, frzs ρ1 ps = some ([.lst ts], ρ2) ∧ P (enumT ts) ρ2
theorem w_enumI {l : LA} {P : List T → Env → Prop} (h : l ρ fun ps ρ1 => kEnI ps ρ1 P) : lEnumI l ρ P := h
theorem w_keni {ps : List PV} {P : List T → Env → Prop} (e : frzs ρ ps = some ([.lst ts], ρ2)) (h : P (enumT ts) ρ2) : kEnI ps ρ P := ⟨ts, ρ2, e, h⟩
def kRgOk (a b : Int) (R : Prop) : Prop := RgOk a b ∧ R
theorem w_krg {a b : Int} {R : Prop} (l : a ≤ 2 ^ 40 ∧ -(2 ^ 40) ≤ a ∧ b ≤ 2 ^ 40 ∧ -(2 ^ 40) ≤ b ∧ b - a ≤ 1000000) (h : R) : kRgOk a b R := ⟨by unfold RgOk; omega, h⟩
theorem w_lstRg {l : LRg} (h : l ρ fun a b ρ1 => kRgOk a b (Q (.ow (.lst (rngT a (b - a).toNat))) ρ1)) : lLstRg l ρ Q := h
def kRg1 (p : PV) (ρ1 : Env) (P : Int → Int → Env → Prop) : Prop := ∃ n, val ρ1 p = some (.int n) ∧ P 0 n ρ1
theorem w_rg1 {P : Int → Int → Env → Prop} (h : la ρ fun p ρ1 => kRg1 p ρ1 P) : lRg1 la ρ P := h
theorem w_krg1 {P : Int → Int → Env → Prop} {n : Int} (e : val ρ p = some (.int n)) (h : P 0 n ρ) : kRg1 p ρ P := ⟨n, e, h⟩
def kRg2 (p q : PV) (ρ2 : Env) (P : Int → Int → Env → Prop) : Prop := ∃ i j, val ρ2 p = some (.int i) ∧ val ρ2 q = some (.int j) ∧ P i j ρ2
theorem w_rg2 {P : Int → Int → Env → Prop} (h : la ρ fun p ρ1 => lb ρ1 fun q ρ2 => kRg2 p q ρ2 P) : lRg2 la lb ρ P := h
theorem w_krg2 {P : Int → Int → Env → Prop} {i j : Int} (e1 : val ρ p = some (.int i)) (e2 : val ρ q = some (.int j)) (h : P i j ρ) : kRg2 p q ρ P := ⟨i, j, e1, e2, h⟩
theorem w_while {c : LT} {lb : LS} (W : Nat → Env → Prop) (m : Nat) (h0 : W m ρ) (h : ∀ m ρ1, W m ρ1 → c ρ1 fun b ρ2 => if b = true then lb { L with nx := fun ρ' => ∃ m', m' < m ∧ W m' ρ', ct := fun ρ' => ∃ m', m' < m ∧ W m' ρ', bk := L.nx } ρ2 else L.nx ρ2) : lWhile c lb L ρ := ⟨W, ⟨m, h0⟩, h⟩
/-! comprehensions -/
def nfV (a b : List Nat) : Prop := a = b
def kItem (vs : List Nat) (p : PV) (ρ5 : Env) (N : T → Env → Prop) : Prop := ∃ u ρ6, frz ρ5 p = some (u, ρ6) ∧ hok ρ6 vs = true ∧ N u (wipeE ρ6 vs)
def kSkip (vs : List Nat) (ρ4 : Env) (N : Env → Prop) : Prop := hok ρ4 vs = true ∧ N (wipeE ρ4 vs)
def kLc (lg : LG) (lt : LT) (le : LE) (vs : List Nat) (ts : List T) (ρ1 : Env) (Q : PV → Env → Prop) : Prop := hok ρ1 vs = true ∧ ts.length ≤ 1000000 ∧ ∃ I : Nat → List T → Env → Prop, I 0 [] (wipeE ρ1 vs) ∧
  (∀ k acc t ρ2, ts[k]? = some t → acc.length ≤ k → I k acc ρ2 → lg t ρ2 fun ρ3 => lt ρ3 fun b ρ4 => if b = true then le ρ4 fun p ρ5 => kItem vs p ρ5 fun u ρ6 => I (k + 1) (acc ++ [u]) ρ6
    else kSkip vs ρ4 fun ρ6 => I (k + 1) acc ρ6) ∧ ∀ acc ρ2, I ts.length acc ρ2 → Q (.ow (.lst acc)) ρ2
theorem w_lc {li : LI} {lg : LG} {lt : LT} {vs vs' : List Nat} (e : vs = vs') (h : li ρ fun ts ρ1 => kLc lg lt le vs' ts ρ1 Q) : lLc li lg lt le vs ρ Q := by subst e; exact h
theorem w_kitem {vs : List Nat} {N : T → Env → Prop} (e : frz ρ p = some (u, ρ2)) (hk : hok ρ2 vs = true) (e2 : wipeE ρ2 vs = ρ3) (h : N u ρ3) : kItem vs p ρ N := ⟨u, ρ2, e, hk, by rw [e2]; exact h⟩
theorem w_kskip {vs : List Nat} {N : Env → Prop} (hk : hok ρ vs = true) (e2 : wipeE ρ vs = ρ3) (h : N ρ3) : kSkip vs ρ N := ⟨hk, by rw [e2]; exact h⟩
theorem w_klc {lg : LG} {lt : LT} {vs : List Nat} (I : Nat → List T → Env → Prop) (hk : hok ρ vs = true) (hz : ts.length ≤ 1000000) (e : wipeE ρ vs = ρ2) (h0 : I 0 [] ρ2)
    (h1 : ∀ k acc t ρ2, ts[k]? = some t → acc.length ≤ k → I k acc ρ2 → lg t ρ2 fun ρ3 => lt ρ3 fun b ρ4 => if b = true then le ρ4 fun p ρ5 => kItem vs p ρ5 fun u ρ6 => I (k + 1) (acc ++ [u]) ρ6 else kSkip vs ρ4 fun ρ6 => I (k + 1) acc ρ6)
    (h2 : ∀ acc ρ2, I ts.length acc ρ2 → Q (.ow (.lst acc)) ρ2) : kLc lg lt le vs ts ρ Q := ⟨hk, hz, I, by rw [e]; exact h0, h1, h2⟩
/-- nothing but the list is made: each item by a function -/
theorem w_klcN {α : Type} {f : α → T} {xs : List α} {lt : LT} {vs : List Nat} {i : Nat} (c : α → Bool) (g : α → T) (hk : hok ρ vs = true) (hz : xs.length ≤ 1000000) (e : wipeE ρ vs = ρ2)
    (h1 : ∀ x, x ∈ xs → ∀ (N1 : T → Env → Prop) (N0 : Env → Prop), (c x = true → N1 (g x) ρ2) → (c x = false → N0 ρ2) → ∀ ρ3, ρ2.set i (some (.sh (f x))) = ρ3 → lt ρ3 fun b ρ4 => if b = true then le ρ4 fun p ρ5 => kItem vs p ρ5 N1 else kSkip vs ρ4 N0)
    (h2 : Q (.ow (.lst ((xs.filter c).map g))) ρ2) : kLc (lgName i) lt le vs (xs.map f) ρ Q := by
  refine w_klc (fun k acc ρ' => acc = ((xs.take k).filter c).map g ∧ ρ' = ρ2) hk (by simpa using hz) e ⟨by simp, rfl⟩ (fun k acc t ρ' ht hl hI => ?_) fun acc ρ' hI => ?_
  · obtain ⟨rfl, rfl⟩ := hI
    rw [List.getElem?_map] at ht
    cases ex : xs[k]? with
    | none => rw [ex] at ht; cases ht
    | some x =>
      rw [ex] at ht
      cases ht
      have tk : xs.take (k + 1) = xs.take k ++ [x] := by rw [List.take_add_one, ex]; rfl
      refine h1 x (List.mem_of_getElem? ex) _ _ (fun hc => ⟨?_, rfl⟩) (fun hc => ⟨?_, rfl⟩) _ rfl
      · rw [tk, List.filter_append, List.map_append]
        simp [hc]
      · rw [tk, List.filter_append, List.map_append]
        simp [hc]
  · obtain ⟨rfl, rfl⟩ := hI
    rw [List.length_map, List.take_length]
    exact h2
/-- .. of all -/
theorem w_klcA {α : Type} {f : α → T} {xs : List α} {vs : List Nat} {i : Nat} (g : α → T) (hk : hok ρ vs = true) (hz : xs.length ≤ 1000000) (e : wipeE ρ vs = ρ2)
    (h1 : ∀ x, x ∈ xs → ∀ (N1 : T → Env → Prop), N1 (g x) ρ2 → ∀ ρ3, ρ2.set i (some (.sh (f x))) = ρ3 → le ρ3 fun p ρ5 => kItem vs p ρ5 N1)
    (h2 : Q (.ow (.lst (xs.map g))) ρ2) : kLc (lgName i) lYes le vs (xs.map f) ρ Q := by
  refine w_klcN (fun _ => true) g hk hz e (fun x hx N1 N0 n1 _ ρ3 e3 => ?_) (by rw [List.filter_eq_self.mpr (fun _ _ => rfl)]; exact h2)
  exact w_yes (by rw [if_pos rfl]; exact h1 x hx N1 (n1 rfl) ρ3 e3)
end
section
variable {P : PV → Prop} {K : PySem.W.Frag} {i j : Int} {z z' : Str} {s t u : T} {ts us : List T}
theorem v_int {g : Int → Int → Int} (h : P (.sh (.int (g i j)))) : vInt g (.int i) (.int j) P := ⟨i, j, rfl, rfl, h⟩
theorem v_intC {C : Int → Int → Prop} {g : Int → Int → Int} (c : C i j) (h : P (.sh (.int (g i j)))) : vIntC C g (.int i) (.int j) P := ⟨i, j, rfl, rfl, c, h⟩
theorem v_cmp {g : Int → Int → Bool} (h : P (.sh (.bl (g i j)))) : vCmp g (.int i) (.int j) P := ⟨i, j, rfl, rfl, h⟩
theorem v_un {g : Int → Int} (h : P (.sh (.int (g i)))) : vUn g (.int i) P := ⟨i, rfl, h⟩
theorem v_addS (l : z.length + z'.length ≤ 16777216) (h : P (.sh (.str (z ++ z')))) : vAddS (.str z) (.str z') P := ⟨z, z', rfl, rfl, l, h⟩
theorem v_eqI (h : P (.sh (.bl (decide (i = j))))) : vEq false (.int i) (.int j) P := ⟨.int i, .int j, rfl, rfl, rfl, by simpa using h⟩
theorem v_neI (h : P (.sh (.bl (!decide (i = j))))) : vEq true (.int i) (.int j) P := ⟨.int i, .int j, rfl, rfl, rfl, by simpa using h⟩
theorem v_eqS (h : P (.sh (.bl (decide (z = z'))))) : vEq false (.str z) (.str z') P := ⟨.str z, .str z', rfl, rfl, rfl, by simpa using h⟩
theorem v_neS (h : P (.sh (.bl (!decide (z = z'))))) : vEq true (.str z) (.str z') P := ⟨.str z, .str z', rfl, rfl, rfl, by simpa using h⟩
theorem v_eqNil (h : P (.sh (.bl (decide (ts.length = 0))))) : vEqN false (.lst ts) (.lst []) P := ⟨ts, [], rfl, rfl, .inr rfl, h⟩
theorem v_neNil (h : P (.sh (.bl (!decide (ts.length = 0))))) : vEqN true (.lst ts) (.lst []) P := ⟨ts, [], rfl, rfl, .inr rfl, h⟩
theorem v_eqD {d e : PyData} (h1 : Dat s d) (h2 : Dat t e) (h3 : SeqAt.shaped d = true) (h4 : SeqAt.shaped e = true) (h : P (.sh (.bl (PyData.eqv d e)))) : vEqD false s t P := ⟨d, e, h1, h2, h3, h4, h⟩
theorem v_neD {d e : PyData} (h1 : Dat s d) (h2 : Dat t e) (h3 : SeqAt.shaped d = true) (h4 : SeqAt.shaped e = true) (h : P (.sh (.bl (!PyData.eqv d e)))) : vEqD true s t P := ⟨d, e, h1, h2, h3, h4, h⟩
theorem v_inS {zs : List Str} (h : P (.sh (.bl (decide (z ∈ zs))))) : vIn false (.str z) (.lst (zs.map T.str)) P := ⟨.str z, zs.map V.str, _, rfl, rfl, lfVs_strs zs, by rw [inV_strs]; exact h⟩
theorem v_notInS {zs : List Str} (h : P (.sh (.bl (!decide (z ∈ zs))))) : vIn true (.str z) (.lst (zs.map T.str)) P := ⟨.str z, zs.map V.str, _, rfl, rfl, lfVs_strs zs, by rw [inV_strs]; exact h⟩
theorem v_ixL (e : atI ts i = some u) (h : P (.sh u)) : vIxL (.lst ts) (.int i) P := ⟨ts, i, u, rfl, rfl, e, h⟩
theorem v_ixT (e : atI ts i = some u) (h : P (.sh u)) : vIxT (.tup ts) (.int i) P := ⟨ts, i, u, rfl, rfl, e, h⟩
theorem v_ixS {c : Nat} (l : z.length ≤ 16777216) (e : atI z.cps.toList i = some c) (h : P (.sh (.str ⟨#[c]⟩))) : vIxS (.str z) (.int i) P := ⟨z, i, c, rfl, rfl, l, e, h⟩
theorem v_len {n : Nat} (e : lenT t = some n) (l : n ≤ 16777216) (h : P (.sh (.int n))) : vLen [t] P := ⟨t, n, rfl, e, l, h⟩
theorem v_abs (h : P (.sh (.int (if i < 0 then -i else i)))) : vAbs [.int i] P := ⟨i, rfl, h⟩
theorem v_int2 {g : Int → Int → Int} (h : P (.sh (.int (g i j)))) : vInt2 g [.int i, .int j] P := ⟨i, j, rfl, h⟩
/-- the least, the greatest of two -/
theorem v_min2 (h : ∀ m : Int, m ≤ i → m ≤ j → (m = i ∨ m = j) → P (.sh (.int m))) : vInt2 (fun i j => if j < i then j else i) [.int i, .int j] P := by
  refine ⟨i, j, rfl, ?_⟩
  by_cases c : j < i
  · simp only [if_pos c]; exact h j (by omega) (Int.le_refl _) (.inr rfl)
  · simp only [if_neg c]; exact h i (Int.le_refl _) (by omega) (.inl rfl)
theorem v_max2 (h : ∀ m : Int, i ≤ m → j ≤ m → (m = i ∨ m = j) → P (.sh (.int m))) : vInt2 (fun i j => if j > i then j else i) [.int i, .int j] P := by
  refine ⟨i, j, rfl, ?_⟩
  by_cases c : j > i
  · simp only [if_pos c]; exact h j (by omega) (Int.le_refl _) (.inr rfl)
  · simp only [if_neg c]; exact h i (Int.le_refl _) (by omega) (.inl rfl)
theorem v_lenS {ns : List Int} (h : P (.sh (.int (ns.length : Nat)))) : vLenS K [.scr K ns] P := ⟨ns, rfl, h⟩
theorem v_intOfI (h : P (.sh (.int i))) : vIntOf [.int i] P := .inl ⟨i, rfl, h⟩
theorem v_intOfB {b : Bool} (h : P (.sh (.int (if b = true then 1 else 0)))) : vIntOf [.bl b] P := .inr ⟨b, rfl, h⟩
theorem v_strOf (h : P (.sh (.str z))) : vStrOf [.str z] P := ⟨z, rfl, h⟩
theorem v_lst (e : sqT t = some us) (h : P (.ow (.lst us))) : vLst [t] P := ⟨t, us, rfl, e, h⟩
theorem v_tup (h : P (.sh (.tup us))) : vTup [.lst us] P := ⟨us, rfl, h⟩
theorem v_all {bs : List Bool} (h : P (.sh (.bl (bs.all id)))) : vAll [.lst (bs.map T.bl)] P := ⟨bs, rfl, h⟩
theorem v_repr {d : PyData} (h1 : Dat t d) (h2 : Sr d) (h3 : d.depth ≤ 20) (h : P (.sh (.str d.shown))) : vRepr [t] P := ⟨t, d, rfl, h1, h2, h3, h⟩
theorem v_cat (l : ts.length + us.length ≤ 16777216) (h : P (.ow (.lst (ts ++ us)))) : vCat (.lst ts) (.lst us) P := ⟨ts, us, rfl, rfl, l, h⟩
theorem v_isi {n : String} {v : Value} {b : Bool} (e1 : tyOfT s = some n) (e2 : clsT t = some v) (e3 : PySem.W.kitOne K (.type n) v = some b) (h : P (.sh (.bl b))) : vIsi K [s, t] P := ⟨s, t, n, v, b, rfl, e1, e2, e3, h⟩
theorem v_isN (h : P (.sh (.bl (isNonT s)))) : vIsN false s .non P := ⟨rfl, h⟩
theorem v_notN (h : P (.sh (.bl (!isNonT s)))) : vIsN true s .non P := ⟨rfl, h⟩
theorem w_itN {α : Type} [DecidableEq α] {a : α} {A B : Prop} (q : B) : if (!decide (a = a)) = true then A else B := by rw [decide_eq_true rfl]; exact q
theorem w_itE {α : Type} [DecidableEq α] {a : α} {A B : Prop} (q : A) : if decide (a = a) = true then A else B := by rw [decide_eq_true rfl]; exact q
theorem v_sortS {zs : List Str} (l : zs.length < 64) (h : ∀ ys : List Str, ys.Perm zs → ys.Pairwise sLe → P (.ow (.lst (ys.map T.str)))) : vSortS [.lst (zs.map T.str)] P := ⟨zs, rfl, l, h⟩
theorem w_itNT {A B : Prop} (q : B) : if (!true) = true then A else B := q
theorem w_itNF {A B : Prop} (q : A) : if (!false) = true then A else B := q
theorem w_itT {A B : Prop} (q : A) : if true = true then A else B := by rw [if_pos rfl]; exact q
theorem w_itF {A B : Prop} (q : B) : if false = true then A else B := by rw [if_neg (by decide)]; exact q
end
end LP
end
section
set_option maxRecDepth 100000
set_option maxHeartbeats 4000000
namespace LH
open PySem L2
def spPen (K : PySem.W.Frag) : Sp := fun vs H Q _ => ∃ (a : Addr) (ns : List Int), vs = [.ref a] ∧ SqL K H a (ns.map V.int) ∧ ns.length ≤ 63 ∧ ∀ p c H', H p = none → H c = none → Same H H' → Pen H' p c 0 → Q (.ref p) H'
def spDraw : Sp := fun vs H Q _ => ∃ (p c : Addr) (m : Int) (n : Nat), vs = [.ref p, .int m] ∧ Pen H p c n ∧ n < 2 ^ 62 ∧ 0 < m ∧ m < 1361129467683753853853498429727072845824 ∧ ∀ (d : Int) H', 0 ≤ d → d < m → Sb p H H' → Pen H' p c (n + 1) → Q (.int d) H'
def spPick : Sp := fun vs H Q _ => ∃ (p c s : Addr) (xs : List V) (n : Nat), vs = [.ref p, .ref s] ∧ Pen H p c n ∧ n < 2 ^ 62 ∧ H s = some (.lst xs) ∧ 0 < xs.length ∧ xs.length < 1073741824 ∧ ∀ (v : V) H', v ∈ xs → Sb p H H' → Pen H' p c (n + 1) → Q v H'
def spPickS : Sp := fun vs H Q _ => ∃ (p c : Addr) (z : Str) (n : Nat), vs = [.ref p, .str z] ∧ Pen H p c n ∧ n < 2 ^ 62 ∧ 0 < z.length ∧ z.length < 1000000 ∧ ∀ (x : Nat) H', x ∈ z.cps.toList → Sb p H H' → Pen H' p c (n + 1) → Q (.str ⟨#[x]⟩) H'
def spShuf : Sp := fun vs H Q _ => ∃ (p c s : Addr) (xs : List V) (n : Nat), vs = [.ref p, .ref s] ∧ Pen H p c n ∧ n + xs.length < 2 ^ 62 ∧ H s = some (.lst xs) ∧ xs.length ≤ 1000 ∧
  ∀ (q : Addr) (ys : List V) H', H q = none → H' q = some (.lst ys) → ys.Perm xs → Sb p H H' → Pen H' p c (n + xs.length) → Q (.ref q) H'
def spNames : Sp := fun vs H Q _ => ∃ (p c : Addr) (m : Int) (n : Nat), vs = [.ref p, .int m] ∧ Pen H p c n ∧ n + 20 < 2 ^ 62 ∧ 1 ≤ m ∧ m ≤ 18 ∧
  ∀ (q : Addr) (zs : List Str) H', H q = none → H' q = some (.lst (zs.map V.str)) → zs.length = m.toNat → (∀ z ∈ zs, Nm z) → Sb p H H' → Pen H' p c (n + 20) → Q (.ref q) H'
def spPrice : Sp := fun vs H Q _ => ∃ (p c : Addr) (n : Nat), vs = [.ref p] ∧ Pen H p c n ∧ n + 4 < 2 ^ 62 ∧ ∀ (x : Int) H', 1 ≤ x → x ≤ 99 → Sb p H H' → Pen H' p c (n + 4) → Q (.int x) H'
def spSort : Sp := fun vs H Q _ => ∃ (p c r g : Addr) (rs gs : List Str) (m : Int) (n : Nat), vs = [.ref p, .ref r, .ref g, .int m] ∧ Pen H p c n ∧ n + 200 < 2 ^ 62 ∧ H r = some (.lst (rs.map V.str)) ∧ H g = some (.lst (gs.map V.str)) ∧
  1 ≤ rs.length ∧ rs.length ≤ 18 ∧ 1 ≤ gs.length ∧ gs.length ≤ 18 ∧ (∀ z ∈ rs, Nm z) ∧ (∀ z ∈ gs, Nm z) ∧ 0 ≤ m ∧ m ≤ 12 ∧ ∀ (v : V) (S : SData) H', SOk S → S.rooms.Perm rs → SortAt (fun q => H q ≠ none) H' v S → Sb p H H' → Pen H' p c (n + 200) → Q v H'
def spStreet : Sp := fun vs H Q _ => ∃ (p c : Addr) (a b o : Int) (n : Nat), vs = [.ref p, .int a, .int b, .int o] ∧ Pen H p c n ∧ n + 3000 < 2 ^ 62 ∧ 1 ≤ a ∧ a ≤ 6 ∧ 0 ≤ b ∧ b ≤ 12 ∧ 0 ≤ o ∧ o ≤ 8 ∧
  ∀ (v : V) (T : TData) H', TOk T → StreetAt (fun q => H q ≠ none) H' v T → Sb p H H' → Pen H' p c (n + 3000) → Q v H'
def spPlain : Sp := fun vs H Q _ => ∃ (v : V) (d : Door), vs = [v] ∧ DoorAt H v d ∧ ∀ t H', H t = none → Same H H' → H' t = some (.tup (doorV d)) → Q (.ref t) H'
def spSortInit (C : Addr) : Sp := fun vs H Q _ => ∃ (x dx r d : Addr) (rs : List Str) (ts : List V) (ds : List Door) (S : SData), vs = [.ref x, .ref r, .ref d] ∧ H x = some (.ins C dx []) ∧ Sq H r (rs.map V.str) ∧ Sq H d ts ∧ DoorsAt H ts ds ∧ SOk S ∧ rs.Perm S.rooms ∧ ds.Perm S.doors ∧
  ∀ H' ra da ts', H ra = none → H da = none → H' x = some (.ins C dx (sortF ra da)) → H' ra = some (.lst (S.rooms.map V.str)) → H' da = some (.lst ts') → DoorsAt H' ts' S.doors → Sb x H H' → Q .non H'
def spRooms (C : Addr) : Sp := fun vs H Q _ => ∃ (v : V) (S : SData), vs = [v] ∧ SortO C (fun _ => False) H v S ∧ ∀ l H', H l = none → Same H H' → H' l = some (.lst (S.rooms.map V.str)) → Q (.ref l) H'
def spDoors (C : Addr) : Sp := fun vs H Q _ => ∃ (v : V) (S : SData), vs = [v] ∧ SortO C (fun _ => False) H v S ∧ ∀ l ts H', H l = none → Same H H' → H' l = some (.lst ts) → DoorsAt H' ts S.doors → Q (.ref l) H'
def spSame (C : Addr) : Sp := fun vs H Q _ => ∃ (v : V) (S : SData), vs = [v] ∧ SortO C (fun _ => False) H v S ∧ SOk S ∧ ∀ v' H', SortO C (fun q => H q ≠ none) H' v' S → Same H H' → Q v' H'
def spStreetInit (CS CT : Addr) : Sp := fun vs H Q _ => ∃ (x dx o : Addr) (lv rv : V) (os : List V) (T : TData), vs = [.ref x, lv, .int T.first, .ref o, rv] ∧ H x = some (.ins CT dx []) ∧ SortO CS (fun _ => False) H lv T.left ∧ SortO CS (fun _ => False) H rv T.right ∧ Sq H o os ∧ PySem.W.EachIs (SortO CS (fun _ => False) H) os T.odd ∧ TOk T ∧
  ∀ H' oa lv' rv' os', H oa = none → H' x = some (.ins CT dx (streetF lv' T.first oa rv')) → SortO CS (fun q => H q ≠ none) H' lv' T.left → SortO CS (fun q => H q ≠ none) H' rv' T.right → H' oa = some (.lst os') → PySem.W.EachIs (SortO CS (fun q => H q ≠ none) H') os' T.odd → Sb x H H' → Q .non H'
def spSide (CS CT : Addr) (g : TData → SData) : Sp := fun vs H Q _ => ∃ (v : V) (D : TData), vs = [v] ∧ StreetO CS CT (fun _ => False) H v D ∧ TOk D ∧ ∀ v' H', SortO CS (fun q => H q ≠ none) H' v' (g D) → Same H H' → Q v' H'
def spFirst (CS CT : Addr) : Sp := fun vs H Q _ => ∃ (v : V) (D : TData), vs = [v] ∧ StreetO CS CT (fun _ => False) H v D ∧ Q (.int D.first) H
def spLen (CS CT : Addr) : Sp := fun vs H Q _ => ∃ (v : V) (D : TData), vs = [v] ∧ StreetO CS CT (fun _ => False) H v D ∧ Q (.int D.odd.length) H
def spOdd (CS CT : Addr) : Sp := fun vs H Q _ => ∃ (v : V) (D : TData), vs = [v] ∧ StreetO CS CT (fun _ => False) H v D ∧ TOk D ∧
  ∀ l os H', H l = none → H' l = some (.lst os) → PySem.W.EachIs (SortO CS (fun q => H q ≠ none ∨ q = l) H') os D.odd → Same H H' → Q (.ref l) H'
def TData.at' (D : TData) (h : Int) : SData := if h - D.first < 0 then D.left else (D.odd[(h - D.first).toNat]?).getD D.right
theorem TData.at_left {D : TData} {h : Int} (c : h - D.first < 0) : D.at' h = D.left := if_pos c
theorem TData.at_odd {D : TData} {h : Int} (c : ¬ h - D.first < 0) {S : SData} (e : D.odd[(h - D.first).toNat]? = some S) : D.at' h = S := by
  unfold TData.at'
  rw [if_neg c, e]
  rfl
theorem TData.at_right {D : TData} {h : Int} (c : ¬ h - D.first < 0) (e : ¬ h - D.first < D.odd.length) : D.at' h = D.right := by
  unfold TData.at'
  rw [if_neg c, List.getElem?_eq_none (by omega)]
  rfl
theorem TOk.at' {D : TData} (ok : TOk D) (h : Int) : SOk (D.at' h) := by
  unfold TData.at'
  split
  · exact ok.l
  · cases e : D.odd[(h - D.first).toNat]? with
    | none => exact ok.r
    | some S => exact ok.o S (List.mem_of_getElem? e)
def spAtO (CS CT : Addr) : Sp := fun vs H Q _ => ∃ (v : V) (D : TData) (h : Int), vs = [v, .int h] ∧ StreetO CS CT (fun _ => False) H v D ∧ TOk D ∧ ∀ v' H', SortO CS (fun q => H q ≠ none) H' v' (D.at' h) → Same H H' → Q v' H'
def placesV (D : TData) : List V := (([.str "left"] : List V) ++ rgV D.first (D.first + D.odd.length)) ++ [.str "right"]
def spPlaces (CS CT : Addr) : Sp := fun vs H Q _ => ∃ (v : V) (D : TData), vs = [v] ∧ StreetO CS CT (fun _ => False) H v D ∧ TOk D ∧ ∀ l H', H l = none → Same H H' → H' l = some (.lst (placesV D)) → Q (.ref l) H'
end LH
end
section
set_option maxRecDepth 100000
set_option maxHeartbeats 4000000
theorem LH.FnG.imp {P : PySem.Program} {w : PySem.World} {K : PySem.W.Frag} {mg : PySem.Str → Option PySem.Value} {base : PySem.Heap} {k : Nat} {f : PySem.Addr} {fd : PySem.FuncData} {ps : List PySem.Str} {sp sp' : L2.Sp} (F : LH.FnG P w K mg base k f fd ps sp)
    (h : ∀ vs H Q E, sp' vs H Q E → sp vs H Q E) : LH.FnG P w K mg base k f fd ps sp' :=
  ⟨fun vs H Q E q => F.n vs H Q E (h _ _ _ _ q), fun A out s H args us vs Q E r g e b v q => F.go A out s H args us vs Q E r g e b v (h _ _ _ _ q)⟩
namespace LP
open PySem L2 LH
/-! ### trees of the law's own things and of the program's -/
abbrev doorT (d : Door) : T := .tup [.str d.name, .str d.room, .int d.move, .str d.goal, .int d.price]
def sortT (S : SData) : T := .dic [(.inr "rooms", .lst (S.rooms.map T.str)), (.inr "doors", .lst (S.doors.map doorT))]
def streetT (D : TData) : T := .dic [(.inr "left", sortT D.left), (.inr "first", .int D.first), (.inr "odd", .lst (D.odd.map sortT)), (.inr "right", sortT D.right)]
def sortO (C : Addr) (S : SData) : T := .ins C [("_rooms", .lst (S.rooms.map T.str)), ("_doors", .lst (S.doors.map doorT))]
def streetO (CS CT : Addr) (D : TData) : T := .ins CT [("_left", sortO CS D.left), ("_first", .int D.first), ("_odd", .lst (D.odd.map (sortO CS))), ("_right", sortO CS D.right)]
def penT (ns : List Int) (t r : Int) : T := .dic [(.inr "cells", .lst (ns.map T.int)), (.inr "turn", .int t), (.inr "rest", .int r)]
def PenOk (n : Nat) (p : T) : Prop := ∃ ns t r, p = penT ns t r ∧ ns.length ≤ 63 ∧ 0 ≤ t ∧ t ≤ n ∧ 0 ≤ r
theorem PenOk.mono {n m : Nat} {p : T} (h : PenOk n p) (l : n ≤ m) : PenOk m p := by
  obtain ⟨ns, t, r, h1, h2, h3, h4, h5⟩ := h
  exact ⟨ns, t, r, h1, h2, h3, by omega, h5⟩
theorem valT_cons {κ : Type} [DecidableEq κ] {k k' : κ} {t : T} {r : List (κ × T)} : valT ((k', t) :: r) k = if k' = k then some t else valT r k := by
  unfold valT
  rw [List.find?_cons]
  by_cases c : k' = k <;> simp [c]
theorem sortT_rooms (S : SData) : dgetT (sortT S) (.str "rooms") = some (some (.lst (S.rooms.map T.str))) := by
  simp only [dgetT, sortT, tkey, valT_cons, if_true]
theorem sortT_doors (S : SData) : dgetT (sortT S) (.str "doors") = some (some (.lst (S.doors.map doorT))) := by
  simp [dgetT, sortT, tkey, valT_cons, key_iff, ofS_iff]
theorem streetT_left (D : TData) : dgetT (streetT D) (.str "left") = some (some (sortT D.left)) := by
  simp [dgetT, streetT, tkey, valT_cons]
theorem streetT_first (D : TData) : dgetT (streetT D) (.str "first") = some (some (.int D.first)) := by
  simp [dgetT, streetT, tkey, valT_cons, key_iff, ofS_iff]
theorem streetT_odd (D : TData) : dgetT (streetT D) (.str "odd") = some (some (.lst (D.odd.map sortT))) := by
  simp [dgetT, streetT, tkey, valT_cons, key_iff, ofS_iff]
theorem streetT_right (D : TData) : dgetT (streetT D) (.str "right") = some (some (sortT D.right)) := by
  simp [dgetT, streetT, tkey, valT_cons, key_iff, ofS_iff]
theorem sortF_eq (ra da : Addr) : sortF ra da = [(("_rooms" : Str), V.ref ra), (("_doors" : Str), V.ref da)] := by
  simp [sortF, putF, nrd]
theorem streetF_eq (lv : V) (f : Int) (oa : Addr) (rv : V) : streetF lv f oa rv = [(("_left" : Str), lv), (("_first" : Str), V.int f), (("_odd" : Str), V.ref oa), (("_right" : Str), rv)] := by
  simp [streetF, putF, t_lf, t_lo, t_lr, t_fo, t_fr, t_or]
section
variable {av av' : Addr → Prop} {H H' : Hp} {v : V}
theorem doors_dns : ∀ {vs : List V} {ds : List Door}, (∀ t xs, av t → H t ≠ some (.tup xs)) → DoorsAt H vs ds → Dns av H vs (ds.map doorT)
  | _, _, _, .nil => .nil
  | _, _, nt, .cons r t => by
    obtain ⟨x, rfl, e⟩ := r
    exact .cons (.tup (fun z => nt _ _ z e) e (.cons (.str _) (.cons (.str _) (.cons (.int _) (.cons (.str _) (.cons (.int _) .nil)))))) (doors_dns nt t)
theorem dns_doors : ∀ {vs : List V} {ds : List Door}, Dns av H vs (ds.map doorT) → DoorsAt H vs ds
  | _, [], h => by cases h; exact .nil
  | _, d :: ds, h => by
    rw [List.map_cons] at h
    cases h with
    | cons h t =>
      refine .cons ?_ (dns_doors t)
      cases h with
      | tup _ e d5 =>
        cases d5 with | cons a1 d4 => cases d4 with | cons a2 d3 => cases d3 with | cons a3 d2 => cases d2 with | cons a4 d1 => cases d1 with | cons a5 d0 =>
          cases a1; cases a2; cases a3; cases a4; cases a5; cases d0
          exact ⟨_, rfl, e⟩
theorem sort_dn {S : SData} (nt : ∀ t xs, av t → H t ≠ some (.tup xs)) (f : ∀ q, av q → av' q) (h : SortAt av' H v S) : Dn av H v (sortT S) := by
  obtain ⟨a, ra, da, ts, rfl, ⟨x1, x2, x3⟩, h1, h2, h3, h4⟩ := h
  exact .dic (fun z => x1 (f _ z)) (.inl h1) rfl (.cons (.lst (fun z => x2 (f _ z)) h2 (dns_strs _)) (.cons (.lst (fun z => x3 (f _ z)) h3 (doors_dns nt h4)) .nil))
theorem sorts_dns (nt : ∀ t xs, av t → H t ≠ some (.tup xs)) (f : ∀ q, av q → av' q) : ∀ {vs : List V} {Ss : List SData}, PySem.W.EachIs (SortAt av' H) vs Ss → Dns av H vs (Ss.map sortT)
  | _, _, .nil => .nil
  | _, _, .cons r t => .cons (sort_dn nt f r) (sorts_dns nt f t)
theorem street_dn {D : TData} (nt : ∀ t xs, av t → H t ≠ some (.tup xs)) (f : ∀ q, av q → av' q) (h : StreetAt av' H v D) : Dn av H v (streetT D) := by
  obtain ⟨a, oa, lv, rv, os, rfl, ⟨x1, x2⟩, h1, h2, h3, h4, h5⟩ := h
  exact .dic (fun z => x1 (f _ z)) (.inl h1) rfl (.cons (sort_dn nt f h2) (.cons (.int _) (.cons (.lst (fun z => x2 (f _ z)) h4 (sorts_dns nt f h5)) (.cons (sort_dn nt f h3) .nil))))
theorem sortO_dn {C : Addr} {S : SData} (nt : ∀ t xs, av t → H t ≠ some (.tup xs)) (f : ∀ q, av q → av' q) (h : SortO C av' H v S) : Dn av H v (sortO C S) := by
  obtain ⟨x, dx, ra, da, ts, rfl, ⟨x1, x2, x3⟩, h1, h2, h3, h4⟩ := h
  rw [sortF_eq] at h1
  exact .ins (fun z => x1 (f _ z)) h1 rfl (.cons (.lst (fun z => x2 (f _ z)) h2 (dns_strs _)) (.cons (.lst (fun z => x3 (f _ z)) h3 (doors_dns nt h4)) .nil))
theorem sortOs_dns {C : Addr} (nt : ∀ t xs, av t → H t ≠ some (.tup xs)) (f : ∀ q, av q → av' q) : ∀ {vs : List V} {Ss : List SData}, PySem.W.EachIs (SortO C av' H) vs Ss → Dns av H vs (Ss.map (sortO C))
  | _, _, .nil => .nil
  | _, _, .cons r t => .cons (sortO_dn nt f r) (sortOs_dns nt f t)
/-! and back -/
theorem keys2 {α β κ : Type} {k1 k2 : κ} {t1 t2 : β} {fs : List (κ × α)} (h : fs.map Prod.fst = [(k1, t1), (k2, t2)].map Prod.fst) : ∃ v1 v2, fs = [(k1, v1), (k2, v2)] := by
  match fs, h with
  | [(a, v1), (b, v2)], h =>
    simp at h
    obtain ⟨rfl, rfl⟩ := h
    exact ⟨v1, v2, rfl⟩
theorem keys4 {α β κ : Type} {k1 k2 k3 k4 : κ} {t1 t2 t3 t4 : β} {fs : List (κ × α)} (h : fs.map Prod.fst = [(k1, t1), (k2, t2), (k3, t3), (k4, t4)].map Prod.fst) : ∃ v1 v2 v3 v4, fs = [(k1, v1), (k2, v2), (k3, v3), (k4, v4)] := by
  match fs, h with
  | [(a, v1), (b, v2), (c, v3), (d, v4)], h =>
    simp at h
    obtain ⟨rfl, rfl, rfl, rfl⟩ := h
    exact ⟨v1, v2, v3, v4, rfl⟩
theorem keys3 {α β κ : Type} {k1 k2 k3 : κ} {t1 t2 t3 : β} {fs : List (κ × α)} (h : fs.map Prod.fst = [(k1, t1), (k2, t2), (k3, t3)].map Prod.fst) : ∃ v1 v2 v3, fs = [(k1, v1), (k2, v2), (k3, v3)] := by
  match fs, h with
  | [(a, v1), (b, v2), (c, v3)], h =>
    simp at h
    obtain ⟨rfl, rfl, rfl⟩ := h
    exact ⟨v1, v2, v3, rfl⟩
theorem dn_sortO {C : Addr} {S : SData} (h : Dn av H v (sortO C S)) : SortO C (fun _ => False) H v S := by
  cases h with
  | ins n e k d =>
    obtain ⟨v1, v2, rfl⟩ := keys2 k
    cases d with | cons a d => cases d with | cons b d =>
      cases a with | lst _ e1 d1 => cases b with | lst _ e2 d2 =>
        have d1' := d1.strs
        subst d1'
        exact ⟨_, _, _, _, _, rfl, ⟨id, id, id⟩, by rw [sortF_eq]; exact e, e1, e2, dns_doors d2⟩
theorem dns_sortOs {C : Addr} : ∀ {vs : List V} {Ss : List SData}, Dns av H vs (Ss.map (sortO C)) → PySem.W.EachIs (SortO C (fun _ => False) H) vs Ss
  | _, [], h => by cases h; exact .nil
  | _, S :: Ss, h => by
    rw [List.map_cons] at h
    cases h with | cons a t => exact .cons (dn_sortO a) (dns_sortOs t)
theorem dn_streetO {CS CT : Addr} {D : TData} (h : Dn av H v (streetO CS CT D)) : StreetO CS CT (fun _ => False) H v D := by
  cases h with
  | ins n e k d =>
    obtain ⟨v1, v2, v3, v4, rfl⟩ := keys4 k
    cases d with | cons a d => cases d with | cons b d => cases d with | cons c d => cases d with | cons f d =>
      cases b
      cases c with | lst _ e3 d3 => exact ⟨_, _, _, _, _, _, rfl, ⟨id, id⟩, by rw [streetF_eq]; exact e, dn_sortO a, dn_sortO f, e3, dns_sortOs d3⟩
theorem own_pen {p : Addr} {tp : T} {F : List Addr} {n : Nat} (o : Own av H p tp F) (h : PenOk n tp) : F = [p] ∧ ∃ c, Pen H p c n ∧ ¬ av c := by
  obtain ⟨ns, t, r, rfl, h2, h3, h4, h5⟩ := h
  obtain ⟨rfl, ks, e, k, d⟩ := o
  obtain ⟨v1, v2, v3, rfl⟩ := keys3 k
  cases d with | cons a d => cases d with | cons b d => cases d with | cons c d =>
    cases b; cases c
    cases a with
    | lst na e1 d1 =>
      have d1' := d1.ints
      subst d1'
      exact ⟨rfl, _, ⟨ns, t, r, e, e1, h2, h3, h4, h5⟩, na⟩
theorem pen_own {p c : Addr} {n : Nat} (h : Pen H p c n) (nc : ¬ av c) : ∃ tp, PenOk n tp ∧ Own av H p tp [p] := by
  obtain ⟨ns, t, r, h1, h2, h3, h4, h5, h6⟩ := h
  exact ⟨penT ns t r, ⟨ns, t, r, rfl, h3, h4, h5, h6⟩, rfl, _, h1, rfl, .cons (.lst nc h2 (dns_ints ns)) (.cons (.int _) (.cons (.int _) .nil))⟩
end
/-! ### promises over trees -/
/-- what a def with a pen gets, and how it hands back -/
theorem penL {lsp : LSp} {vs : List V} {H : Hp} {Q : VK} {E : XK} (h : spL true lsp vs H Q E) : ∃ (AV : Addr → Prop) (a : Addr) (vs' : List V) (tp : T) (ts' : List T) (q : PV → T → Prop) (x : Addr → List (Str × T) → T → Prop) (F : List Addr), vs = .ref a :: vs' ∧ lsp (tp :: ts') q x ∧
    (∀ b, AV b → b ∉ F ∧ Liv H b) ∧ Own (avF AV F) H a tp F ∧ Dns (avF AV F) H vs' ts' ∧ ∀ n, PenOk n tp → F = [a] ∧ ∃ c, Pen H a c n ∧ (∀ b, avF AV [a] b → Liv H b) ∧ ∀ H', Sb a H H' →
      (∀ t ys, avF AV [a] t → ∀ n', Pen H' a c n' → H' t ≠ some (.tup ys)) ∧
      (∀ n' v t, Pen H' a c n' → (∀ tp', PenOk n' tp' → q (.sh t) tp') → Dn (avF AV [a]) H' v t → Q v H') ∧
      (∀ n' l t, Pen H' a c n' → (∀ tp', PenOk n' tp' → q (.ow t) tp') → H l = none → Own (avF AV [a, l]) H' l t [l] → Q (.ref l) H') := by
  obtain ⟨AV, F, ts, q, x, hAV, ⟨a, vs', tp, ts', rfl, rfl, o, d⟩, hl, hq, _⟩ := h
  refine ⟨AV, a, vs', tp, ts', q, x, F, rfl, hl, hAV, o, d, fun n hn => ?_⟩
  obtain ⟨rfl, c, hP, nc⟩ := own_pen o hn
  have liv : ∀ b, avF AV [a] b → Liv H b := fun b z => z.elim (fun z => (hAV b z).2) fun m => o.al b m
  refine ⟨rfl, c, hP, liv, fun H' sb => ⟨fun t ys z n' hP' e => ?_, fun n' v t hP' hv dv => ?_, fun n' l t hP' hv hl' ow => ?_⟩⟩
  · by_cases ct : t = a
    · subst ct
      obtain ⟨ns, tt, r, e1, _⟩ := hP'
      rw [e1] at e; cases e
    · obtain ⟨u, hu, nt⟩ := liv t z
      rw [sb t u ct hu] at e
      exact nt ys (Option.some.inj e)
  · obtain ⟨tp', ok, ow⟩ := pen_own (av := avF AV [a]) hP' nc
    refine hq _ tp' v H' (hv tp' ok) (fun b o hb e => sb b o (by simpa using hb) e) ⟨[], (by intro c hc; cases hc), fun _ a' vs'' e => ?_, rfl, dv⟩
    cases e
    rw [List.append_nil]; exact ow
  · have ncl : ¬ avF AV ([a] ++ [l]) c := fun z => by
      rcases z with z | z
      · exact nc (.inl z)
      · rcases List.mem_append.mp z with z | z
        · exact nc (.inr z)
        · rw [List.mem_singleton] at z
          subst z
          obtain ⟨ns, tt, r, _, e2, _⟩ := hP
          rw [hl'] at e2; cases e2
    obtain ⟨tp', ok, ow'⟩ := pen_own (av := avF AV ([a] ++ [l])) hP' ncl
    refine hq _ tp' _ H' (hv tp' ok) (fun b o hb e => sb b o (by simpa using hb) e) ⟨[l], fun b hb => ?_, fun _ a' vs'' e => ?_, l, rfl, ow⟩
    · rw [List.mem_singleton] at hb
      subst hb
      exact ⟨hl', ow.al b List.mem_cons_self⟩
    · cases e
      exact ow'
/-! the pen, the law -/
def lPen (K : PySem.W.Frag) : LSp := fun ts q _ => ∃ ns, ts = [.scr K ns] ∧ ns.length ≤ 63 ∧ ∀ tp, PenOk 0 tp → q (.ow tp) .non
theorem scr_of {av : Addr → Prop} {H : Hp} {v : V} {K : PySem.W.Frag} {ns : List Int} (h : Dn av H v (.scr K ns)) : ∃ a, v = .ref a ∧ SqL K H a (ns.map V.int) := by
  cases h with
  | scrH n e => exact ⟨_, rfl, .inl e⟩
  | scrK e => exact ⟨_, rfl, .inr e⟩
theorem dn_scr {H : Hp} {a : Addr} {K : PySem.W.Frag} {ns : List Int} (h : SqL K H a (ns.map V.int)) : Dn (fun _ => False) H (.ref a) (.scr K ns) := h.elim (fun e => .scrH id e) .scrK
theorem pen_l {K : PySem.W.Frag} {vs : List V} {H : Hp} {Q : VK} {E : XK} (h : spL false (lPen K) vs H Q E) : spPen K vs H Q E := by
  obtain ⟨AV, F, ts, q, x, hAV, ⟨rfl, d⟩, ⟨ns, rfl, hl, k⟩, hq, _⟩ := h
  cases d with | cons d1 d =>
    cases d
    obtain ⟨a, rfl, sq⟩ := scr_of d1
    refine ⟨a, ns, rfl, sq, hl, fun p c H' hp hc s hP => ?_⟩
    have nc : ¬ (AV c ∨ c = p) := by
      intro z
      rcases z with z | z
      · obtain ⟨o, e, _⟩ := (hAV c z).2
        rw [hc] at e; cases e
      · obtain ⟨ms, t, r, h1, h2, _⟩ := hP
        rw [z, h1] at h2; cases h2
    obtain ⟨tp, ok, o⟩ := pen_own (av := fun b => AV b ∨ b = p) hP nc
    refine hq (.ow tp) .non _ H' (k tp ok) (fun b o _ e => s b o e) ⟨[p], fun b hb => ?_, (by intro z; cases z), p, rfl, o.up fun b z => .inl (z.imp id fun m => by simpa using m)⟩
    rw [List.mem_singleton] at hb
    subst hb
    exact ⟨hp, o.al b List.mem_cons_self⟩
def _root_.LH.spLaw (K : PySem.W.Frag) : Sp := fun vs H Q _ => ∃ (a : Addr) (ns : List Int), vs = [.ref a] ∧ SqL K H a (ns.map V.int) ∧ ns.length ≤ 63 ∧ ∀ H', Q (.bl true) H'
def lLaw (K : PySem.W.Frag) : LSp := fun ts q _ => ∃ ns, ts = [.scr K ns] ∧ ns.length ≤ 63 ∧ q (.sh (.bl true)) .non
theorem law_l {K : PySem.W.Frag} {vs : List V} {H : Hp} {Q : VK} {E : XK} (h : spLaw K vs H Q E) : spL false (lLaw K) vs H Q E := by
  obtain ⟨a, ns, rfl, sq, hl, k⟩ := h
  refine ⟨fun _ => False, [], [.scr K ns], fun p _ => p = .sh (.bl true), fun _ _ _ => False, fun a z => z.elim, ⟨rfl, .cons ((dn_scr sq).up fun b z => .inl (z.elim id fun m => by cases m)) .nil⟩, ⟨ns, rfl, hl, rfl⟩, fun p t' v H' e s ra => ?_, fun _ _ _ _ _ z => z.elim⟩
  subst e
  obtain ⟨FB, _, _, _, d⟩ := ra
  cases d
  exact k H'
def lDraw : LSp := fun ts q _ => ∃ tp m n, ts = [tp, .int m] ∧ PenOk n tp ∧ n < 2 ^ 62 ∧ 0 < m ∧ m < 1361129467683753853853498429727072845824 ∧ ∀ (d : Int) tp', 0 ≤ d → d < m → PenOk (n + 1) tp' → q (.sh (.int d)) tp'
theorem draw_l {vs : List V} {H : Hp} {Q : VK} {E : XK} (h : spL true lDraw vs H Q E) : spDraw vs H Q E := by
  obtain ⟨AV, a, vs', tp, ts', q, x, F, rfl, hl, hAV, o, d, hp⟩ := penL h
  obtain ⟨tp2, m, n, e, ok, h1, h2, h3, k⟩ := hl
  cases e
  obtain ⟨rfl, c, hP, liv, hb⟩ := hp n ok
  cases d with
  | cons d1 d2 =>
    cases d1; cases d2
    refine ⟨a, c, m, n, rfl, hP, h1, h2, h3, fun dd H' c0 c1 sb hP' => ?_⟩
    obtain ⟨_, r1, _⟩ := hb H' sb
    exact r1 _ _ _ hP' (fun tp' ok' => k dd tp' c0 c1 ok') (.int _)
def lPick : LSp := fun ts q _ => ∃ tp us n, ts = [tp, .lst us] ∧ PenOk n tp ∧ n < 2 ^ 62 ∧ 0 < us.length ∧ us.length < 1000000 ∧ ∀ u tp', u ∈ us → PenOk (n + 1) tp' → q (.sh u) tp'
theorem Dns.mem {av : Addr → Prop} {H : Hp} {vs : List V} {ts : List T} {v : V} (d : Dns av H vs ts) (h : v ∈ vs) : ∃ t, t ∈ ts ∧ Dn av H v t := by
  obtain ⟨i, hi, rfl⟩ := List.getElem_of_mem h
  obtain ⟨t, h1, h2⟩ := d.get (List.getElem?_eq_getElem hi)
  exact ⟨t, List.mem_of_getElem? h1, h2⟩
theorem pick_l {vs : List V} {H : Hp} {Q : VK} {E : XK} (h : spL true lPick vs H Q E) : spPick vs H Q E := by
  obtain ⟨AV, a, vs', tp, ts', q, x, F, rfl, hl, hAV, o, d, hp⟩ := penL h
  obtain ⟨tp2, us, n, e, ok, h1, h2, h3, k⟩ := hl
  cases e
  obtain ⟨rfl, c, hP, liv, hb⟩ := hp n ok
  cases d with
  | cons d1 d2 =>
    cases d2
    cases d1 with
    | lst na e d =>
      refine ⟨a, c, _, _, n, rfl, hP, h1, e, by rw [d.len]; exact h2, by rw [d.len]; omega, fun v H' hv sb hP' => ?_⟩
      obtain ⟨_, r1, _⟩ := hb H' sb
      obtain ⟨t, ht, dt⟩ := d.mem hv
      exact r1 _ _ _ hP' (fun tp' ok' => k t tp' ht ok') (dt.fr fun b u nb e => sb b u (fun z => nb (.inr (by simp [z]))) e)
def lPickS : LSp := fun ts q _ => ∃ tp z n, ts = [tp, .str z] ∧ PenOk n tp ∧ n < 2 ^ 62 ∧ 0 < z.length ∧ z.length < 1000000 ∧ ∀ (x : Nat) tp', x ∈ z.cps.toList → PenOk (n + 1) tp' → q (.sh (.str ⟨#[x]⟩)) tp'
theorem pickS_l {vs : List V} {H : Hp} {Q : VK} {E : XK} (h : spL true lPickS vs H Q E) : spPickS vs H Q E := by
  obtain ⟨AV, a, vs', tp, ts', q, x, F, rfl, hl, hAV, o, d, hp⟩ := penL h
  obtain ⟨tp2, z, n, e, ok, h1, h2, h3, k⟩ := hl
  cases e
  obtain ⟨rfl, c, hP, liv, hb⟩ := hp n ok
  cases d with
  | cons d1 d2 =>
    cases d1; cases d2
    refine ⟨a, c, z, n, rfl, hP, h1, h2, h3, fun xx H' hx sb hP' => ?_⟩
    obtain ⟨_, r1, _⟩ := hb H' sb
    exact r1 _ _ _ hP' (fun tp' ok' => k xx tp' hx ok') (.str _)
def lShuf : LSp := fun ts q _ => ∃ tp us n, ts = [tp, .lst us] ∧ PenOk n tp ∧ n + us.length < 2 ^ 62 ∧ us.length ≤ 1000 ∧ ∀ us' tp', us'.Perm us → PenOk (n + us.length) tp' → q (.ow (.lst us')) tp'
theorem Dns.zip {av : Addr → Prop} {H : Hp} : ∀ {vs : List V} {ts : List T}, Dns av H vs ts → ∃ bs : List (V × T), bs.map (·.1) = vs ∧ bs.map (·.2) = ts ∧ ∀ b ∈ bs, Dn av H b.1 b.2
  | _, _, .nil => ⟨[], rfl, rfl, by simp⟩
  | _, _, .cons r t => by
    obtain ⟨bs, h1, h2, h3⟩ := Dns.zip t
    refine ⟨(_, _) :: bs, by rw [List.map_cons, h1], by rw [List.map_cons, h2], ?_⟩
    intro b hb
    rcases List.mem_cons.mp hb with rfl | hb
    · exact r
    · exact h3 b hb
theorem dns_of {av : Addr → Prop} {H : Hp} : ∀ {bs : List (V × T)}, (∀ b ∈ bs, Dn av H b.1 b.2) → Dns av H (bs.map (·.1)) (bs.map (·.2))
  | [], _ => .nil
  | b :: bs, h => .cons (h b List.mem_cons_self) (dns_of fun c hc => h c (List.mem_cons_of_mem _ hc))
theorem perm_lift {α β : Type} {f : α → β} : ∀ {ys : List β} {bs : List α}, ys.Perm (bs.map f) → ∃ cs : List α, cs.Perm bs ∧ cs.map f = ys := by
  intro ys bs h
  have key : ∀ {l1 l2 : List β}, l1.Perm l2 → ∀ bs : List α, l2 = bs.map f → ∃ cs : List α, cs.Perm bs ∧ cs.map f = l1 := by
    intro l1 l2 p
    induction p with
    | nil => intro bs e; exact ⟨[], by rw [List.map_eq_nil_iff.mp e.symm], rfl⟩
    | cons x _ ih =>
      intro bs e
      match bs, e with
      | b :: bs, e =>
        rw [List.map_cons] at e
        injection e with e1 e2
        obtain ⟨cs, p, ec⟩ := ih bs e2
        exact ⟨b :: cs, p.cons b, by rw [List.map_cons, ec, e1]⟩
    | swap x y l =>
      intro bs e
      match bs, e with
      | b :: c :: bs, e =>
        rw [List.map_cons, List.map_cons] at e
        injection e with e1 e2
        injection e2 with e2 e3
        exact ⟨c :: b :: bs, List.Perm.swap _ _ _, by rw [List.map_cons, List.map_cons, e1, e2, e3]⟩
    | trans _ _ ih1 ih2 =>
      intro bs e
      obtain ⟨cs, p, ec⟩ := ih2 bs e
      obtain ⟨ds, p2, ed⟩ := ih1 cs ec.symm
      exact ⟨ds, p2.trans p, ed⟩
  exact key h bs rfl
theorem shuf_l {vs : List V} {H : Hp} {Q : VK} {E : XK} (h : spL true lShuf vs H Q E) : spShuf vs H Q E := by
  obtain ⟨AV, a, vs', tp, ts', q, x, F, rfl, hl, hAV, o, d, hp⟩ := penL h
  obtain ⟨tp2, us, n, e, ok, h1, h2, k⟩ := hl
  cases e
  obtain ⟨rfl, c, hP, liv, hb⟩ := hp n ok
  cases d with
  | cons d1 d2 =>
    cases d2
    cases d1 with
    | @lst s xs _ na e d =>
      refine ⟨a, c, s, xs, n, rfl, hP, by rw [d.len]; exact h1, e, by rw [d.len]; exact h2, fun l ys H' hl' el pm sb hP' => ?_⟩
      obtain ⟨_, _, r2⟩ := hb H' sb
      obtain ⟨bs, b1, b2, b3⟩ := d.zip
      subst b1 b2
      obtain ⟨cs, pc, rfl⟩ := perm_lift pm
      rw [List.length_map] at hP' k
      refine r2 _ _ (.lst (cs.map (·.2))) hP' (fun tp' ok' => k _ tp' (pc.map _) ok') hl' ⟨rfl, _, el, ?_⟩
      refine (dns_of fun b hb' => ?_)
      have db := b3 b (pc.mem_iff.mp hb')
      have db2 : Dn (avF AV [a]) H' b.1 b.2 := db.fr fun b u nb e => sb b u (fun z => nb (.inr (by simp [z]))) e
      have db3 : Dn (avF AV [a, l]) H b.1 b.2 := db.up fun b z => by
        rcases z with z | z
        · exact .inl (.inl z)
        · rcases List.mem_cons.mp z with z | z
          · exact .inl (.inr (by simp [z]))
          · rw [List.mem_singleton] at z; subst z; exact .inr hl'
      exact db3.fr fun b u nb e => sb b u (fun z => nb (.inr (by simp [z]))) e
def lNames : LSp := fun ts q _ => ∃ tp m n, ts = [tp, .int m] ∧ PenOk n tp ∧ n + 20 < 2 ^ 62 ∧ 1 ≤ m ∧ m ≤ 18 ∧ ∀ (zs : List Str) tp', zs.length = m.toNat → (∀ z ∈ zs, Nm z) → PenOk (n + 20) tp' → q (.ow (.lst (zs.map T.str))) tp'
theorem names_l {vs : List V} {H : Hp} {Q : VK} {E : XK} (h : spL true lNames vs H Q E) : spNames vs H Q E := by
  obtain ⟨AV, a, vs', tp, ts', q, x, F, rfl, hl, hAV, o, d, hp⟩ := penL h
  obtain ⟨tp2, m, n, e, ok, h1, h2, h3, k⟩ := hl
  cases e
  obtain ⟨rfl, c, hP, liv, hb⟩ := hp n ok
  cases d with
  | cons d1 d2 =>
    cases d1; cases d2
    refine ⟨a, c, m, n, rfl, hP, h1, h2, h3, fun l zs H' hl' el hz hN sb hP' => ?_⟩
    obtain ⟨_, _, r2⟩ := hb H' sb
    exact r2 _ _ _ hP' (fun tp' ok' => k zs tp' hz hN ok') hl' ⟨rfl, _, el, dns_strs zs⟩
def lPrice : LSp := fun ts q _ => ∃ tp n, ts = [tp] ∧ PenOk n tp ∧ n + 4 < 2 ^ 62 ∧ ∀ (x : Int) tp', 1 ≤ x → x ≤ 99 → PenOk (n + 4) tp' → q (.sh (.int x)) tp'
theorem price_l {vs : List V} {H : Hp} {Q : VK} {E : XK} (h : spL true lPrice vs H Q E) : spPrice vs H Q E := by
  obtain ⟨AV, a, vs', tp, ts', q, x, F, rfl, hl, hAV, o, d, hp⟩ := penL h
  obtain ⟨tp2, n, e, ok, h1, k⟩ := hl
  cases e
  obtain ⟨rfl, c, hP, liv, hb⟩ := hp n ok
  cases d
  refine ⟨a, c, n, rfl, hP, h1, fun xx H' hx1 hx2 sb hP' => ?_⟩
  obtain ⟨_, r1, _⟩ := hb H' sb
  exact r1 _ _ _ hP' (fun tp' ok' => k xx tp' hx1 hx2 ok') (.int _)
def lSort : LSp := fun ts q _ => ∃ (tp : T) (rs gs : List Str) (m : Int) (n : Nat), ts = [tp, .lst (rs.map T.str), .lst (gs.map T.str), .int m] ∧ PenOk n tp ∧ n + 200 < 2 ^ 62 ∧ 1 ≤ rs.length ∧ rs.length ≤ 18 ∧ 1 ≤ gs.length ∧ gs.length ≤ 18 ∧ (∀ z ∈ rs, Nm z) ∧ (∀ z ∈ gs, Nm z) ∧ 0 ≤ m ∧ m ≤ 12 ∧
  ∀ (S : SData) tp', SOk S → S.rooms.Perm rs → PenOk (n + 200) tp' → q (.sh (sortT S)) tp'
theorem av_none {AV : Addr → Prop} {a : Addr} {H : Hp} (liv : ∀ b, avF AV [a] b → Liv H b) : ∀ q, avF AV [a] q → H q ≠ none := fun q z e => by
  obtain ⟨o, eo, _⟩ := liv q z
  rw [e] at eo; cases eo
theorem sort_l {vs : List V} {H : Hp} {Q : VK} {E : XK} (h : spL true lSort vs H Q E) : spSort vs H Q E := by
  obtain ⟨AV, a, vs', tp, ts', q, x, F, rfl, hl, hAV, o, d, hp⟩ := penL h
  obtain ⟨tp2, rs, gs, m, n, e, ok, h1, h2, h3, h4, h5, h6, h7, h8, h9, k⟩ := hl
  cases e
  obtain ⟨rfl, c, hP, liv, hb⟩ := hp n ok
  cases d with | cons d1 d => cases d with | cons d2 d => cases d with | cons d3 d =>
    cases d3; cases d
    cases d1 with | lst n1 e1 f1 => cases d2 with | lst n2 e2 f2 =>
      have f1' := f1.strs
      have f2' := f2.strs
      subst f1' f2'
      refine ⟨a, c, _, _, rs, gs, m, n, rfl, hP, h1, e1, e2, h2, h3, h4, h5, h6, h7, h8, h9, fun v S H' so pm hv sb hP' => ?_⟩
      obtain ⟨nt, r1, _⟩ := hb H' sb
      exact r1 _ _ _ hP' (fun tp' ok' => k S tp' so pm ok') (sort_dn (fun t xs z => nt t xs z _ hP') (av_none liv) hv)
def lStreet : LSp := fun ts q _ => ∃ (tp : T) (a b o : Int) (n : Nat), ts = [tp, .int a, .int b, .int o] ∧ PenOk n tp ∧ n + 3000 < 2 ^ 62 ∧ 1 ≤ a ∧ a ≤ 6 ∧ 0 ≤ b ∧ b ≤ 12 ∧ 0 ≤ o ∧ o ≤ 8 ∧ ∀ (D : TData) tp', TOk D → PenOk (n + 3000) tp' → q (.sh (streetT D)) tp'
theorem street_l {vs : List V} {H : Hp} {Q : VK} {E : XK} (h : spL true lStreet vs H Q E) : spStreet vs H Q E := by
  obtain ⟨AV, a, vs', tp, ts', q, x, F, rfl, hl, hAV, o, d, hp⟩ := penL h
  obtain ⟨tp2, i, j, l, n, e, ok, h1, h2, h3, h4, h5, h6, h7, k⟩ := hl
  cases e
  obtain ⟨rfl, c, hP, liv, hb⟩ := hp n ok
  cases d with | cons d1 d => cases d with | cons d2 d => cases d with | cons d3 d =>
    cases d1; cases d2; cases d3; cases d
    refine ⟨a, c, i, j, l, n, rfl, hP, h1, h2, h3, h4, h5, h6, h7, fun v D H' so hv sb hP' => ?_⟩
    obtain ⟨nt, r1, _⟩ := hb H' sb
    exact r1 _ _ _ hP' (fun tp' ok' => k D tp' so ok') (street_dn (fun t xs z => nt t xs z _ hP') (av_none liv) hv)
/-! defs that change nothing -/
theorem plainL {lsp : LSp} {vs : List V} {H : Hp} {Q : VK} {E : XK} (h : spL false lsp vs H Q E) : ∃ (AV : Addr → Prop) (ts : List T) (q : PV → T → Prop) (x : Addr → List (Str × T) → T → Prop), lsp ts q x ∧ (∀ b, AV b → Liv H b) ∧ Dns AV H vs ts ∧ (∀ b, AV b → H b ≠ none) ∧ ∀ H', Same H H' →
      (∀ t ys, AV t → H' t ≠ some (.tup ys)) ∧ (∀ v t, q (.sh t) .non → Dn AV H' v t → Q v H') ∧ (∀ l t, q (.ow t) .non → H l = none → Own (fun b => AV b ∨ b = l) H' l t [l] → Q (.ref l) H') := by
  obtain ⟨AV, F, ts, q, x, hAV, ⟨rfl, d⟩, hl, hq, _⟩ := h
  refine ⟨AV, ts, q, x, hl, fun b z => (hAV b z).2, d.up fun b z => .inl (.inl z), fun b z e => ?_, fun H' s => ⟨fun t ys z e => ?_, fun v t hv dv => ?_, fun l t hv hn ow => ?_⟩⟩
  · obtain ⟨o, eo, _⟩ := (hAV b z).2
    rw [e] at eo; cases eo
  · obtain ⟨o, eo, nt⟩ := (hAV t z).2
    rw [s _ _ eo] at e
    exact nt ys (Option.some.inj e)
  · exact hq _ .non v H' hv (fun b o _ e => s b o e) ⟨[], (by intro c hc; cases hc), (by intro z; cases z), rfl, dv.up fun b z => .inl (z.elim id fun m => by cases m)⟩
  · refine hq _ .non _ H' hv (fun b o _ e => s b o e) ⟨[l], fun b hb => ?_, (by intro z; cases z), l, rfl, ow.up fun b z => .inl (z.imp id fun m => by simpa using m)⟩
    rw [List.mem_singleton] at hb
    subst hb
    exact ⟨hn, ow.al b List.mem_cons_self⟩
def lRooms (C : Addr) : LSp := fun ts q _ => ∃ S, ts = [sortO C S] ∧ q (.ow (.lst (S.rooms.map T.str))) .non
theorem rooms_l {C : Addr} {vs : List V} {H : Hp} {Q : VK} {E : XK} (h : spL false (lRooms C) vs H Q E) : spRooms C vs H Q E := by
  obtain ⟨AV, ts, q, x, ⟨S, rfl, k⟩, liv, d, nn, hb⟩ := plainL h
  cases d with
  | cons d1 d => cases d; exact ⟨_, S, rfl, dn_sortO d1, fun l H' hl s e => (hb H' s).2.2 l _ k hl ⟨rfl, _, e, dns_strs _⟩⟩
def lDoors (C : Addr) : LSp := fun ts q _ => ∃ S, ts = [sortO C S] ∧ q (.ow (.lst (S.doors.map doorT))) .non
theorem doors_l {C : Addr} {vs : List V} {H : Hp} {Q : VK} {E : XK} (h : spL false (lDoors C) vs H Q E) : spDoors C vs H Q E := by
  obtain ⟨AV, ts, q, x, ⟨S, rfl, k⟩, liv, d, nn, hb⟩ := plainL h
  cases d with
  | cons d1 d =>
    cases d
    refine ⟨_, S, rfl, dn_sortO d1, fun l us H' hl s e da => (hb H' s).2.2 l _ k hl ⟨rfl, _, e, doors_dns (fun t xs z => ?_) da⟩⟩
    rcases z with z | z
    · exact (hb H' s).1 t xs z
    · rw [z, e]; intro w; cases w
def lSame (C : Addr) : LSp := fun ts q _ => ∃ S, ts = [sortO C S] ∧ SOk S ∧ q (.sh (sortO C S)) .non
theorem same_l {C : Addr} {vs : List V} {H : Hp} {Q : VK} {E : XK} (h : spL false (lSame C) vs H Q E) : spSame C vs H Q E := by
  obtain ⟨AV, ts, q, x, ⟨S, rfl, ok, k⟩, liv, d, nn, hb⟩ := plainL h
  cases d with
  | cons d1 d => cases d; exact ⟨_, S, rfl, dn_sortO d1, ok, fun v' H' so s => (hb H' s).2.1 _ _ k (sortO_dn (hb H' s).1 nn so)⟩
def lSide (CS CT : Addr) (g : TData → SData) : LSp := fun ts q _ => ∃ D, ts = [streetO CS CT D] ∧ TOk D ∧ q (.sh (sortO CS (g D))) .non
theorem side_l {CS CT : Addr} {g : TData → SData} {vs : List V} {H : Hp} {Q : VK} {E : XK} (h : spL false (lSide CS CT g) vs H Q E) : spSide CS CT g vs H Q E := by
  obtain ⟨AV, ts, q, x, ⟨D, rfl, ok, k⟩, liv, d, nn, hb⟩ := plainL h
  cases d with
  | cons d1 d => cases d; exact ⟨_, D, rfl, dn_streetO d1, ok, fun v' H' so s => (hb H' s).2.1 _ _ k (sortO_dn (hb H' s).1 nn so)⟩
def lFirst (CS CT : Addr) : LSp := fun ts q _ => ∃ D, ts = [streetO CS CT D] ∧ q (.sh (.int D.first)) .non
theorem first_l {CS CT : Addr} {vs : List V} {H : Hp} {Q : VK} {E : XK} (h : spL false (lFirst CS CT) vs H Q E) : spFirst CS CT vs H Q E := by
  obtain ⟨AV, ts, q, x, ⟨D, rfl, k⟩, liv, d, nn, hb⟩ := plainL h
  cases d with
  | cons d1 d => cases d; exact ⟨_, D, rfl, dn_streetO d1, (hb H (Same.refl H)).2.1 _ _ k (.int _)⟩
def lOdd (CS CT : Addr) : LSp := fun ts q _ => ∃ D, ts = [streetO CS CT D] ∧ TOk D ∧ q (.ow (.lst (D.odd.map (sortO CS)))) .non
theorem odd_l {CS CT : Addr} {vs : List V} {H : Hp} {Q : VK} {E : XK} (h : spL false (lOdd CS CT) vs H Q E) : spOdd CS CT vs H Q E := by
  obtain ⟨AV, ts, q, x, ⟨D, rfl, ok, k⟩, liv, d, nn, hb⟩ := plainL h
  cases d with
  | cons d1 d =>
    cases d
    refine ⟨_, D, rfl, dn_streetO d1, ok, fun l os H' hl e so s => (hb H' s).2.2 l _ k hl ⟨rfl, _, e, sortOs_dns (fun t xs z => ?_) (fun q z => z.imp (nn q) id) so⟩⟩
    rcases z with z | z
    · exact (hb H' s).1 t xs z
    · rw [z, e]; intro w; cases w
def lAtO (CS CT : Addr) : LSp := fun ts q _ => ∃ D h, ts = [streetO CS CT D, .int h] ∧ TOk D ∧ q (.sh (sortO CS (D.at' h))) .non
theorem atO_l {CS CT : Addr} {vs : List V} {H : Hp} {Q : VK} {E : XK} (h : spL false (lAtO CS CT) vs H Q E) : spAtO CS CT vs H Q E := by
  obtain ⟨AV, ts, q, x, ⟨D, hh, rfl, ok, k⟩, liv, d, nn, hb⟩ := plainL h
  cases d with
  | cons d1 d =>
    cases d with
    | cons d2 d => cases d; cases d2; exact ⟨_, D, hh, rfl, dn_streetO d1, ok, fun v' H' so s => (hb H' s).2.1 _ _ k (sortO_dn (hb H' s).1 nn so)⟩
/-! len of a street -/
def vLenO (CS CT : Addr) (ts : List T) (P : PV → Prop) : Prop := ∃ D, ts = [streetO CS CT D] ∧ D.odd.length ≤ 1000 ∧ P (.sh (.int D.odd.length))
theorem cls_lenO {CS CT : Addr} : CallS (rLenO CT (spLen CS CT)) (vLenO CS CT) := by
  rintro av H xs ts Q P lv hx ⟨D, rfl, l, q⟩ k
  obtain ⟨x, rfl, hx1⟩ := hx.one
  obtain ⟨a, dx, fs, rfl, e, kk, d⟩ := hx1.ins
  refine ⟨a, dx, fs, rfl, e, .ref a, D, rfl, ?_, D.odd.length, rfl, by omega, k _ _ _ q (Nw.here (.int _))⟩
  have dn : Dn (fun _ => False) H (.ref a) (streetO CS CT D) := .ins id e kk (d.up fun _ z => z.elim)
  exact dn_streetO dn
/-! Sort(..), Street(..) are made -/
def mSort (C : Addr) (ts : List T) (P : T → Prop) : Prop := ∃ (r d : T) (rs : List Str) (ds : List Door) (S : SData), ts = [r, d] ∧ sqT r = some (rs.map T.str) ∧ sqT d = some (ds.map doorT) ∧ SOk S ∧ rs.Perm S.rooms ∧ ds.Perm S.doors ∧ P (sortO C S)
theorem sq_of {av : Addr → Prop} {H : Hp} {v : V} {t : T} {us : List T} (h : Dn av H v t) (e : sqT t = some us) : ∃ a vs, v = .ref a ∧ Sq H a vs ∧ Dns av H vs us := by
  cases t with
  | lst ws => cases e; cases h with | lst _ e d => exact ⟨_, _, rfl, .inl e, d⟩
  | tup ws => cases e; cases h with | tup _ e d => exact ⟨_, _, rfl, .inr e, d⟩
  | _ => cases e
theorem sq_made {H : Hp} {a x dx C : Addr} {vs : List V} (h : Sq H a vs) (nx : H x = none) (nd : H dx = none) : Sq (upd (upd H dx (.own x)) x (.ins C dx [])) a vs := by
  have f : ∀ o, H a = some o → upd (upd H dx (.own x)) x (.ins C dx []) a = some o := fun o e => by
    rw [upd_ne (ne_of_none e nx), upd_ne (ne_of_none e nd)]; exact e
  exact h.imp (f _) (f _)
theorem make_same {H H' : Hp} {x dx C : Addr} (nx : H x = none) (nd : H dx = none) (s : Sb x (upd (upd H dx (.own x)) x (.ins C dx [])) H') : Same H H' := fun b o e => by
  refine s b o (ne_of_none e nx) ?_
  rw [upd_ne (ne_of_none e nx), upd_ne (ne_of_none e nd)]; exact e
theorem make_dns {av : Addr → Prop} {H : Hp} {x dx C : Addr} {vs : List V} {ts : List T} (nx : H x = none) (nd : H dx = none) (d : Dns av H vs ts) : Dns av (upd (upd H dx (.own x)) x (.ins C dx [])) vs ts :=
  d.fr fun b o _ e => by rw [upd_ne (ne_of_none e nx), upd_ne (ne_of_none e nd)]; exact e
theorem make_none {H : Hp} {x dx C q : Addr} (h : upd (upd H dx (.own x)) x (.ins C dx []) q = none) : H q = none ∧ q ≠ x := by
  constructor
  · exact free_upd (free_upd h)
  · intro z; rw [z, upd_same] at h; cases h
theorem mks_sort {C : Addr} : MakeS C (spSortInit C) (mSort C) := by
  rintro av H vs ts x dx Q P lv d nx nd ne ⟨r, dd, rs, ds, S, rfl, e1, e2, ok, p1, p2, hP⟩ k
  cases d with | cons d1 d => cases d with | cons d2 d =>
    cases d
    obtain ⟨a1, v1, rfl, s1, f1⟩ := sq_of d1 e1
    obtain ⟨a2, v2, rfl, s2, f2⟩ := sq_of d2 e2
    have f1' := f1.strs
    subst f1'
    refine ⟨x, dx, a1, a2, rs, v2, ds, S, rfl, upd_same, sq_made s1 nx nd, sq_made s2 nx nd, dns_doors (make_dns nx nd f2), ok, p1, p2, fun H' ra da ts' hra hda hx h1 h2 h3 sb => ⟨rfl, ?_⟩⟩
    have sm := make_same nx nd sb
    obtain ⟨ra1, ra2⟩ := make_none hra
    obtain ⟨da1, da2⟩ := make_none hda
    have nav : ∀ b, av b → H b ≠ none := fun b z e => by obtain ⟨o, eo, _⟩ := lv b z; rw [e] at eo; cases eo
    rw [sortF_eq] at hx
    refine k _ [x] H' hP sm (fun b hb => ?_) ⟨rfl, dx, _, hx, rfl, .cons (.lst (fun z => ?_) h1 (dns_strs _)) (.cons (.lst (fun z => ?_) h2 (doors_dns (fun t xs z => ?_) h3)) .nil)⟩
    · rw [List.mem_singleton] at hb; subst hb
      exact ⟨nx, _, hx, fun _ z => by cases z⟩
    · exact z.elim (fun z => nav _ z ra1) fun m => ra2 (by simpa using m)
    · exact z.elim (fun z => nav _ z da1) fun m => da2 (by simpa using m)
    · rcases z with z | m
      · obtain ⟨o, eo, nt⟩ := lv t z
        rw [sm _ _ eo]
        exact fun w => nt xs (Option.some.inj w)
      · rw [List.mem_singleton] at m; subst m
        rw [hx]; intro w; cases w
def mStreet (CS CT : Addr) (ts : List T) (P : T → Prop) : Prop := ∃ (D : TData) (od : T), ts = [sortO CS D.left, .int D.first, od, sortO CS D.right] ∧ sqT od = some (D.odd.map (sortO CS)) ∧ TOk D ∧ P (streetO CS CT D)
theorem mks_street {CS CT : Addr} : MakeS CT (spStreetInit CS CT) (mStreet CS CT) := by
  rintro av H vs ts x dx Q P lv d nx nd ne ⟨D, od, rfl, e1, ok, hP⟩ k
  cases d with | cons d1 d => cases d with | cons d2 d => cases d with | cons d3 d => cases d with | cons d4 d =>
    cases d; cases d2
    obtain ⟨a1, v1, rfl, s1, f1⟩ := sq_of d3 e1
    have m1 := make_dns (C := CT) nx nd (Dns.one d1)
    have m4 := make_dns (C := CT) nx nd (Dns.one d4)
    have m3 := make_dns (C := CT) nx nd f1
    cases m1 with | cons m1 _ => cases m4 with | cons m4 _ =>
    refine ⟨x, dx, a1, _, _, v1, D, rfl, upd_same, dn_sortO m1, dn_sortO m4, sq_made s1 nx nd, dns_sortOs m3, ok, fun H' oa lv' rv' os' hoa hx hl hr ho hos sb => ⟨rfl, ?_⟩⟩
    have sm := make_same nx nd sb
    obtain ⟨oa1, oa2⟩ := make_none hoa
    have nav : ∀ b, av b → H b ≠ none := fun b z e => by obtain ⟨o, eo, _⟩ := lv b z; rw [e] at eo; cases eo
    have f : ∀ q, (av q ∨ q ∈ [x]) → upd (upd H dx (.own x)) x (.ins CT dx []) q ≠ none := fun q z e => by
      obtain ⟨n1, n2⟩ := make_none e
      exact z.elim (fun z => nav _ z n1) fun m => n2 (by simpa using m)
    have nt : ∀ t xs, (av t ∨ t ∈ [x]) → H' t ≠ some (.tup xs) := fun t xs z => by
      rcases z with z | m
      · obtain ⟨o, eo, nt⟩ := lv t z
        rw [sm _ _ eo]
        exact fun w => nt xs (Option.some.inj w)
      · rw [List.mem_singleton] at m; subst m
        rw [hx]; intro w; cases w
    rw [streetF_eq] at hx
    refine k _ [x] H' hP sm (fun b hb => ?_) ⟨rfl, dx, _, hx, rfl, .cons (sortO_dn nt f hl) (.cons (.int _) (.cons (.lst (fun z => ?_) ho (sortOs_dns nt f hos)) (.cons (sortO_dn nt f hr) .nil)))⟩
    · rw [List.mem_singleton] at hb; subst hb
      exact ⟨nx, _, hx, fun _ z => by cases z⟩
    · exact z.elim (fun z => nav _ z oa1) fun m => oa2 (by simpa using m)
end LP
end
section
set_option maxRecDepth 100000
set_option maxHeartbeats 4000000
namespace L2
open PySem PySem.Spec PyProof.Rows
section
variable {X : Cx} {o : Expr} {p pos apos mpos : Pos} {td : TE}
/-- list(o.values()) -/
def tListVals (td : TE) : TE := fun σ H Q => td σ H fun x H1 => ∃ a kvs, x = V.ref a ∧ Rd H1 a (.dK kvs) ∧ ∀ q, H1 q = none → Q (.ref q) (upd H1 q (.lst (kvs.map Prod.snd)))
theorem vals_snd {κ : Type} {kvs : List (κ × V)} {vs : List (κ × Value)} (r : KV kvs vs) : Vals (kvs.map Prod.snd) (vs.map Prod.snd) := by
  unfold KV at r
  induction r with
  | nil => exact .nil
  | cons h t ih => exact .cons h.2 ih
theorem pe_listVals (hc : X.calm = true) (hg : Gl X "list") (hm : X.mg "list" = none) (hd : PE X o td) (hbase : attributeBase o "values" X.env (eval o X.env) = eval o X.env := by rfl) (hline : (apos.endLine == mpos.line) = true := by rfl)
    (na : starEach [Expr.Call (.Attribute o "values" apos) [] [] mpos] X.env = (false, eval (Expr.Call (.Attribute o "values" apos) [] [] mpos) X.env) :: starEach [] X.env := by rfl) :
    PE X (.Call (.Name "list" p) [.Call (.Attribute o "values" apos) [] [] mpos] [] pos) (tListVals td) := by
  refine ⟨fun pins s σ H Q I h => ?_⟩
  refine Call_ (ld_blt I hg hm boot_list (PyProof.Rows.callWith_type1 (args_cons (wpAny_Call_method0_late hbase hline (thn (hd.run pins s σ H _ I h) fun v s1 ⟨x, H1, I1, r1, a, kvs, ex, ha, q⟩ => ?_)) na) na))
  subst ex
  obtain rfl : v = Value.ref a := r1
  obtain ⟨hz, hsys, vs, rel, dof⟩ := dk_rd I1.hok ha
  obtain ⟨ep, dat⟩ := dof.dictAt
  have dat' := dat
  obtain ⟨ob, es, ho, ex, hdat, hko, hpr, hnd⟩ := dat'
  refine ⟨"dict", "dict.values", F.plainAttrs_dict, F.slot_dict_values, F.type_dict_values, ⟨ob, ho, ex.1⟩, fun b e => ?_, Calls.callWith_builtin rfl (PySem.evalArgs_none ?_)⟩
  · cases e
    exact ⟨ob, ho, ex.2.1⟩
  refine call_meetsIn F.slot_dict_values ⟨ob, ho, ex.1⟩ F.entry_dict_values (F.args_dict_values_1 _) (meets_dict_values (mixKind X.prog X.w) a hsys) ⟨⟨vs, dof⟩, ?_⟩
  refine args_nil ?_
  have k1 : ∀ b u, s1.heap.get? b = some u → (s1.heap.push { cls := .type "dict_values", data := .fields #[.ref a] }).get? b = some u := fun b u e => Heap.get?_push_of_some _ e
  have dat1 : (s1.heap.push { cls := .type "dict_values", data := .fields #[.ref a] }).DictAt (mixKind X.prog X.w) a vs ep := dat.keep k1
  have hlv : vs.length ≤ sizeLine := by rw [← rel.length]; exact hz
  refine PySem.W.kdl_call (PySem.W.kdl_values (knd := mixKind X.prog X.w) (r := s1.heap.objs.size) (d := a) (kvs := vs) (ep := ep)) (I1.ok.hd hc) ⟨⟨_, Heap.get?_push_size _ rfl, rfl, rfl⟩, dat1⟩ hlv fun h' tk acc' c' hk hD hacc => ?_
  have hsz : (s1.heap.push { cls := .type "dict_values", data := .fields #[.ref a] }).objs.size = s1.heap.objs.size + 1 := Heap.size_push _ _
  have ea : acc'.toList = vs.map (·.2) := PySem.W.kdl_vals_eq acc'.toList (by rw [Array.length_toList]; exact hacc.1) fun j v e => hacc.2 j v (by rw [← Array.getElem?_toList]; exact e)
  have le : s1.heap.objs.size ≤ (s1.heap.push { cls := .type "dict_values", data := .fields #[.ref a] }).objs.size := by rw [hsz]; exact Nat.le_succ _
  refine ⟨.ref (s1.heap.push { cls := .type "dict_values", data := .fields #[.ref a] }).objs.size, upd H1 (s1.heap.push { cls := .type "dict_values", data := .fields #[.ref a] }).objs.size (.lst (kvs.map Prod.snd)), I1.laid (t' := tk) (fun b u e => hk b u (k1 b u e)) le (show ObjOk X.prog X.w _ _ _ (.lst _) from ⟨?_, acc'.toList, c', ?_, ?_⟩), rfl, q _ (I1.hok.fresh le)⟩
  · rw [List.length_map]; exact hz
  · rw [ea]; exact vals_snd rel
  · rw [Array.toArray_toList]; exact hD
end
end L2
namespace LP
open PySem L2 LH
section
variable {K : PySem.W.Frag}
/-! ### dict comprehensions -/
def lDc (li : LI) (lg : LG) (lt : LT) (lk lv : LE) (vs : List Nat) : LE := fun ρ Q => li ρ fun ts ρ1 => hok ρ1 vs = true ∧ ts.length ≤ 1000000 ∧ ∃ I : Nat → List (Key × T) → Env → Prop, I 0 [] (wipeE ρ1 vs) ∧
  (∀ k acc t ρ2, ts[k]? = some t → acc.length ≤ k → I k acc ρ2 → lg t ρ2 fun ρ3 => lt ρ3 fun b ρ4 => if b = true then lk ρ4 fun q ρ5 => lv ρ5 fun p ρ6 => ∃ s u ρ7 key, frz ρ6 p = some (u, ρ7) ∧ val ρ7 q = some s ∧ tkey s = some key ∧ hok ρ7 vs = true ∧ I (k + 1) (putT acc key u) (wipeE ρ7 vs)
    else hok ρ4 vs = true ∧ I (k + 1) acc (wipeE ρ4 vs)) ∧ ∀ acc ρ2, I ts.length acc ρ2 → Q (.ow (.dic acc)) ρ2
theorem putT_len {κ : Type} [DecidableEq κ] (kt : List (κ × T)) (k : κ) (t : T) : (putT kt k t).length ≤ kt.length + 1 := by
  unfold putT
  split
  · rw [List.length_map]; omega
  · rw [List.length_append]; exact Nat.le_refl _
theorem sn_dc {wi : TI} {li : LI} {tg : TG} {lg : LG} {tt : TT} {lt : LT} {tk te : TE} {lk le : LE} {vs is : List Nat} (hi : SndI G wi li) (hg : SndG G tg lg is) (hs : is.all (fun i => vs.elem i) = true) (gw : GW vs tg) (ht : SndT G tt lt) (hk : Snd G tk lk) (he : Snd G te le) : Snd G (tDc wi tg tt tk te vs) (lDc li lg lt lk le vs) := by
  intro ρ σ S H Q P r q k
  refine hi ρ σ S H _ _ r q fun ts ρ1 S' J H1 q1 R1 ok => ?_
  obtain ⟨hk1, hz, I, i0, turn, fin⟩ := q1
  intro Dl hD
  have RD : R G (wipeE ρ1 vs) (wipe σ vs) ((.ref Dl, .ow (.dic [])) :: (S' ++ S)) (upd H1 Dl (.dK [])) := by
    obtain ⟨w, R2⟩ := R1.hide hk1
    exact R2.res (Nw.dic hD rfl .nil)
  refine ⟨fun i m H => ∃ acc ρ0, R G (wipeE ρ0 vs) (wipe σ vs) ((.ref Dl, .ow (.dic acc)) :: (S' ++ S)) H ∧ I i acc (wipeE ρ0 vs) ∧ acc.length ≤ i ∧ i ≤ ts.length ∧ m = ts.length - i, ⟨_, [], ρ1, RD, i0, Nat.le_refl _, Nat.zero_le _, rfl⟩, ?_⟩
  rintro i m H2 ⟨acc, ρ0, R2, hI, hacc, hil, rfl⟩
  rcases Nat.lt_or_eq_of_le hil with c | c
  · refine .inr ⟨ok.go G _ (wipe σ vs) [(.ref Dl, .ow (.dic acc))] S H2 i c R2, fun H' => ∃ acc ρ0, R G (wipeE ρ0 vs) (wipe σ vs) ((.ref Dl, .ow (.dic acc)) :: (S' ++ S)) H' ∧ I (i + 1) acc (wipeE ρ0 vs) ∧ acc.length ≤ i + 1, ?_, ?_⟩
    · rintro H' ⟨acc', ρ', R', hI', ha'⟩
      exact ⟨ts.length - (i + 1), by omega, acc', ρ', R', hI', ha', by omega, rfl⟩
    · intro x H' y
      have htk := List.getElem?_eq_getElem c
      have R3 := ok.yld G _ (wipe σ vs) [(.ref Dl, .ow (.dic acc))] S H2 i _ x H' htk R2 y
      refine gw x (wipe σ vs) H' (fun σ2 H2 => wipe σ2 vs = wipe (wipe σ vs) vs → tt σ2 H2 fun b H3 => if b = true then tk σ2 H3 fun y H4 => te σ2 H4 fun z H5 => ∃ kvs k, y = kV k ∧ H5 Dl = some (.dK kvs) ∧ kvs.length < sizeLine ∧
          (∃ acc ρ0, R G (wipeE ρ0 vs) (wipe σ vs) ((.ref Dl, .ow (.dic acc)) :: (S' ++ S)) (upd H5 Dl (.dK (putK kvs k z))) ∧ I (i + 1) acc (wipeE ρ0 vs) ∧ acc.length ≤ i + 1)
          else ∃ acc ρ0, R G (wipeE ρ0 vs) (wipe σ vs) ((.ref Dl, .ow (.dic acc)) :: (S' ++ S)) H3 ∧ I (i + 1) acc (wipeE ρ0 vs) ∧ acc.length ≤ i + 1) _ (fun σ2 H2 e z => ⟨e.trans (wipe_wipe vs), z e⟩) ?_
      · refine hg ((.ref Dl, .ow (.dic acc)) :: (S' ++ S)) _ (wipe σ vs) H' x _ _ _ (als_ok R2 hs) R3 (turn i acc _ _ htk hacc hI) fun ρ3 σ3 H3 q3 R3 hw => ?_
        rw [wipe_wipe] at hw
        refine ht ρ3 σ3 _ H3 _ _ R3 q3 fun b ρ4 H4 q4 R4 => ?_
        cases b with
        | false =>
          obtain ⟨h1, h2⟩ := q4
          have R5 := R4.hide h1
          rw [hw] at R5
          exact ⟨acc, ρ4, R5, h2, by omega⟩
        | true =>
          refine hk ρ4 σ3 _ H4 _ _ R4 q4 fun q ρ5 yk H5 q5 R5 => ?_
          refine he ρ5 σ3 _ H5 _ _ R5 q5 fun p ρ6 y H6 q6 R6 => ?_
          obtain ⟨s, u, ρ7, key, e6, e7, e8, h6, h7⟩ := q6
          have R7 := (R6.frz e6)
          have hkey : yk = kV key := by
            obtain ⟨w, R7⟩ := R7
            exact key_of (R7.rk R7.stk.2.1 e7) e8
          have R8 : R G ρ7 σ3 ((y, .sh u) :: (.ref Dl, .ow (.dic acc)) :: (S' ++ S)) H6 := by
            obtain ⟨w, r⟩ := R7
            have st : StkAt G w σ3 H6 ((y, .sh u) :: (yk, q) :: (.ref Dl, .ow (.dic acc)) :: (S' ++ S)) := r.stk
            have dy : Dn (G.av w) H6 y u := st.1
            have r2 := r.pop.pop
            exact ⟨w, r2.push (p := .sh u) dy⟩
          have R7 := R8.hide h6
          rw [hw] at R7
          obtain ⟨w, R7⟩ := R7
          have dy : Dn (G.av w) H6 y u := R7.top
          obtain ⟨a, F, ea, ⟨rfl, accV, eA, kA, dA⟩, f⟩ := R7.stk.2.1
          cases ea
          have fa := f Dl List.mem_cons_self
          have ava : G.av w Dl := .inr ⟨_, fa⟩
          refine ⟨accV, key, hkey, eA, by rw [len_fst kA, sizeLine_eq]; omega, putT acc key u, ρ7, ⟨w, R7.pop.updTop (t' := .dic (putT acc key u)) fa (fun _ z => by cases z) ⟨rfl, _, upd_same, put_fst kA, (put_dns dy kA dA).upd' ava⟩⟩, h7, Nat.le_trans (putT_len _ _ _) (by omega)⟩
  · subst c
    refine .inl ⟨ok.stop G _ (wipe σ vs) [(.ref Dl, .ow (.dic acc))] S H2 R2, ?_⟩
    exact k _ _ _ _ (fin acc _ hI) R2.unhide.under
/-! list(d.values()) -/
def lListVals (ld : LE) : LE := fun ρ Q => ld ρ fun p ρ1 => ∃ kt, val ρ1 p = some (.dic kt) ∧ Q (.ow (.lst (kt.map Prod.snd))) ρ1
theorem sn_listVals {td : TE} {ld : LE} (hd : Snd G td ld) : Snd G (tListVals td) (lListVals ld) := by
  intro ρ σ S H Q P R0 h k
  refine hd ρ σ S H _ _ R0 h fun p ρ1 x H1 h1 R1 => ?_
  obtain ⟨kt, e, h1⟩ := h1
  obtain ⟨w, R1⟩ := R1
  obtain ⟨a, ks, rfl, e1, k1, d⟩ := (R1.rk R1.top e).dic
  exact ⟨a, ks, rfl, e1, fun q hq => k _ _ _ _ h1 (R1.pop.res (Nw.lst hq d))⟩
/-! steps -/
section
variable {ρ ρ2 ρ3 : Env} {Q : PV → Env → Prop} {p q : PV} {lk lv : LE} {li : LI}
def kDItem (vs : List Nat) (q p : PV) (ρ6 : Env) (N : Key → T → Env → Prop) : Prop := ∃ s u ρ7 key, frz ρ6 p = some (u, ρ7) ∧ val ρ7 q = some s ∧ tkey s = some key ∧ hok ρ7 vs = true ∧ N key u (wipeE ρ7 vs)
theorem w_kditem {vs : List Nat} {N : Key → T → Env → Prop} {s u : T} {key : Key} (e : frz ρ p = some (u, ρ2)) (e1 : val ρ2 q = some s) (e2 : tkey s = some key) (hk : hok ρ2 vs = true) (e3 : wipeE ρ2 vs = ρ3) (h : N key u ρ3) : kDItem vs q p ρ N := ⟨s, u, ρ2, key, e, e1, e2, hk, by rw [e3]; exact h⟩
def kDc (lg : LG) (lt : LT) (lk lv : LE) (vs : List Nat) (ts : List T) (ρ1 : Env) (Q : PV → Env → Prop) : Prop := hok ρ1 vs = true ∧ ts.length ≤ 1000000 ∧ ∃ I : Nat → List (Key × T) → Env → Prop, I 0 [] (wipeE ρ1 vs) ∧
  (∀ k acc t ρ2, ts[k]? = some t → acc.length ≤ k → I k acc ρ2 → lg t ρ2 fun ρ3 => lt ρ3 fun b ρ4 => if b = true then lk ρ4 fun q ρ5 => lv ρ5 fun p ρ6 => kDItem vs q p ρ6 fun key u ρ7 => I (k + 1) (putT acc key u) ρ7
    else kSkip vs ρ4 fun ρ6 => I (k + 1) acc ρ6) ∧ ∀ acc ρ2, I ts.length acc ρ2 → Q (.ow (.dic acc)) ρ2
theorem w_dc {lg : LG} {lt : LT} {vs vs' : List Nat} (e : vs = vs') (h : li ρ fun ts ρ1 => kDc lg lt lk lv vs' ts ρ1 Q) : lDc li lg lt lk lv vs ρ Q := by subst e; exact h
theorem putT_new {κ : Type} [DecidableEq κ] {kt : List (κ × T)} {k : κ} {t : T} (h : k ∉ kt.map Prod.fst) : putT kt k t = kt ++ [(k, t)] := by
  unfold putT
  rw [if_neg]
  intro z
  obtain ⟨q, hq, e⟩ := List.any_eq_true.mp z
  exact h (List.mem_map.mpr ⟨q, hq, by simpa using e⟩)
theorem w_kdcA {α : Type} {f : α → T} {xs : List α} {vs : List Nat} {i : Nat} (key : α → Key) (g : α → T) (nd : (xs.map key).Nodup) (hk : hok ρ vs = true) (hz : xs.length ≤ 1000000) (e : wipeE ρ vs = ρ2)
    (h1 : ∀ x, x ∈ xs → ∀ N : Key → T → Env → Prop, N (key x) (g x) ρ2 → ∀ ρ3, ρ2.set i (some (.sh (f x))) = ρ3 → lk ρ3 fun q ρ5 => lv ρ5 fun p ρ6 => kDItem vs q p ρ6 N)
    (h2 : Q (.ow (.dic (xs.map fun x => (key x, g x)))) ρ2) : kDc (lgName i) lYes lk lv vs (xs.map f) ρ Q := by
  refine ⟨hk, by simpa using hz, fun k acc ρ' => acc = (xs.take k).map (fun x => (key x, g x)) ∧ ρ' = ρ2, ⟨by simp, e⟩, fun k acc t ρ' ht hl hI => ?_, fun acc ρ' hI => ?_⟩
  · obtain ⟨rfl, rfl⟩ := hI
    rw [List.getElem?_map] at ht
    cases ex : xs[k]? with
    | none => rw [ex] at ht; cases ht
    | some x =>
      rw [ex] at ht
      cases ht
      have tk : xs.take (k + 1) = xs.take k ++ [x] := by rw [List.take_add_one, ex]; rfl
      refine w_gName rfl (w_yes ?_)
      rw [if_pos rfl]
      refine h1 x (List.mem_of_getElem? ex) _ ⟨?_, rfl⟩ _ rfl
      have nk : key x ∉ ((xs.take k).map (fun x => (key x, g x))).map Prod.fst := by
        rw [List.map_map]
        intro m
        have nd' : ((xs.take (k + 1)).map key).Nodup := nd.sublist ((List.take_sublist _ _).map key)
        rw [tk, List.map_append, List.nodup_append] at nd'
        exact nd'.2.2 (key x) m (key x) (by simp) rfl
      rw [putT_new nk, tk, List.map_append]; rfl
  · obtain ⟨rfl, rfl⟩ := hI
    rw [List.length_map, List.take_length]
    exact h2
def kVals (p : PV) (ρ1 : Env) (Q : PV → Env → Prop) : Prop := ∃ kt, val ρ1 p = some (.dic kt) ∧ Q (.ow (.lst (kt.map Prod.snd))) ρ1
theorem w_listVals {ld : LE} (h : ld ρ fun p ρ1 => kVals p ρ1 Q) : lListVals ld ρ Q := h
theorem w_kvals {kt : List (Key × T)} (e : val ρ p = some (.dic kt)) (h : Q (.ow (.lst (kt.map Prod.snd))) ρ) : kVals p ρ Q := ⟨kt, e, h⟩
end
theorem cutT_to {α : Type} {xs : List α} {k : Int} (h : 0 ≤ k) : cutT xs none (some k) = xs.take k.toNat := by
  unfold cutT HT.sIx
  simp only [if_neg (show ¬ k < 0 by omega)]
  rw [List.drop_zero, Nat.sub_zero]
  rcases Nat.le_total k.toNat xs.length with h1 | h1
  · rw [Nat.min_eq_left h1]
  · rw [Nat.min_eq_right h1, List.take_of_length_le h1, List.take_of_length_le (Nat.le_refl _)]
theorem cutT_from {α : Type} {xs : List α} {k : Int} (h : 0 ≤ k) : cutT xs (some k) none = xs.drop k.toNat := by
  unfold cutT HT.sIx
  simp only [if_neg (show ¬ k < 0 by omega)]
  rcases Nat.le_total k.toNat xs.length with h1 | h1
  · rw [Nat.min_eq_left h1, List.take_of_length_le (by simp)]
  · rw [Nat.min_eq_right h1, List.drop_of_length_le h1, List.drop_of_length_le (Nat.le_refl _)]; simp
theorem takeS {α : Type} {xs : List α} {k : Nat} {x : α} (h : xs[k]? = some x) : xs.take (k + 1) = xs.take k ++ [x] := by rw [List.take_add_one, h]; rfl
theorem takeF_t {α β : Type} {xs : List α} {k : Nat} {x : α} {p : α → Bool} {f : α → β} (h : xs[k]? = some x) (c : p x = true) : ((xs.take (k + 1)).filter p).map f = ((xs.take k).filter p).map f ++ [f x] := by
  rw [takeS h, List.filter_append, List.map_append]; simp [c]
theorem takeF_f {α β : Type} {xs : List α} {k : Nat} {x : α} {p : α → Bool} {f : α → β} (h : xs[k]? = some x) (c : p x = false) : ((xs.take (k + 1)).filter p).map f = ((xs.take k).filter p).map f := by
  rw [takeS h, List.filter_append, List.map_append]; simp [c]
theorem takeF_len {α β : Type} {xs : List α} {k : Nat} {p : α → Bool} {f : α → β} : (((xs.take k).filter p).map f).length ≤ xs.length := by
  rw [List.length_map]
  exact Nat.le_trans (List.length_filter_le _ _) (by rw [List.length_take]; omega)
theorem atI_c0 {α : Type} (x : α) (xs : List α) : atI (x :: xs) 0 = some x := atI_nat (j := 0) rfl
theorem atI_c1 {α : Type} (x y : α) (xs : List α) : atI (x :: y :: xs) 1 = some y := atI_nat (j := 1) rfl
theorem atI_last {α : Type} (xs : List α) (x : α) : atI (xs ++ [x]) (-1) = some x := by
  have e : (-1 + ((xs.length : Int) + 1)).toNat = xs.length := by omega
  unfold atI ixN
  rw [if_neg (by decide), List.length_append, List.length_singleton, if_pos (by omega)]
  show (xs ++ [x])[((-1 : Int) + ((xs.length + 1 : Nat) : Int)).toNat]? = _
  rw [show ((-1 : Int) + ((xs.length + 1 : Nat) : Int)).toNat = xs.length by omega]
  simp
theorem dn_ins {av : Addr → Prop} {H : Hp} {v : V} {C : Addr} {ft : List (Str × T)} (h : Dn av H v (.ins C ft)) : ∃ x dx fs, v = .ref x ∧ H x = some (.ins C dx fs) ∧ fs.map Prod.fst = ft.map Prod.fst := by
  cases h with | ins _ e k _ => exact ⟨_, _, _, rfl, e, k⟩
/-! ### from the heap to trees and back -/
def DnRes (AV : Addr → Prop) (H H' : Hp) (v : V) : PV → Prop
  | .sh u => Dn AV H' v u
  | .ow u => ∃ a F, v = .ref a ∧ (∀ b ∈ F, H b = none ∧ Liv H' b) ∧ Own (fun b => AV b ∨ b ∈ F) H' a u F
  | _ => False
theorem down {t : TE} {l : LE} {AV : Addr → Prop} {ρ : Env} {σ : St} {H : Hp} {Q : VK} (hs : ∀ G, Snd G t l) (hl : ρ.length = σ.length) (hAV : ∀ a, AV a → Liv H a)
    (hρ : ∀ (i : Nat) (p : PV) (x : Option V), ρ[i]? = some (some p) → σ[i]? = some x → ∃ u v, p = .sh u ∧ x = some v ∧ Dn AV H v u)
    (h : l ρ fun p ρ' => ∃ r, resT ρ' p = some r ∧ ∀ v H', Same H H' → DnRes AV H H' v r → Q v H') : t σ H Q := by
  let G : Gh := ⟨H, AV, [], 0⟩
  let w : Addr → Option Loc := fun _ => none
  have av0 : ∀ b, G.av w b → AV b := fun b z => z.elim id fun ⟨_, z⟩ => by cases z
  have R0 : R G ρ σ [] H := by
    refine ⟨w, hl, fun i p x hp hx => ?_, trivial, fun a l e => (by cases e), fun b o _ e => e, fun a z => ⟨(by intro m; cases m), hAV a z⟩, fun v j m => (by cases m)⟩
    obtain ⟨u, v, rfl, rfl, d⟩ := hρ i p x hp hx
    exact ⟨v, rfl, Dn.up (fun b z => .inl (av0 b z)) d⟩
  refine hs G ρ σ [] H _ _ R0 h fun p ρ' v H' q R' => ?_
  obtain ⟨r, er, q⟩ := q
  obtain ⟨w', R'⟩ := R'
  have sm : Same H H' := fun b o e => R'.frame b o (by intro m; cases m) e
  have upA : ∀ b, AV b → G.av w' b := fun b z => .inl z
  have owc : ∀ {u : T} {l : Loc}, (∃ a F', v = .ref a ∧ Own (G.av w') H' a u F' ∧ ∀ b ∈ F', w' b = some l) → r = .ow u → Q v H' := by
    rintro u l ⟨a, F', rfl, o, f⟩ rfl
    refine q _ _ sm ⟨a, F', rfl, fun b hb => ?_, o.up fun b z => .inl (z.elim .inl fun m => .inr ⟨_, f b m⟩)⟩
    obtain ⟨_, h2, h3⟩ := R'.own b _ (f b hb)
    exact ⟨h2.resolve_right fun m => (by cases m), h3⟩
  have shc : ∀ {u : T}, Dn (G.av w') H' v u → r = .sh u → Q v H' := by
    rintro u d rfl
    exact q _ _ sm (Dn.up (fun b z => .inl (upA b z)) d)
  cases p with
  | sh u => cases er; exact shc R'.top rfl
  | fz u => cases er; exact shc R'.top rfl
  | ow u => cases er; exact owc R'.top rfl
  | io u => cases er
  | cx a d C fs => cases er
  | al i =>
    have hv : σ[i]? = some (some v) := R'.top
    dsimp only [resT] at er
    split at er
    · next u e3 =>
      cases er
      obtain ⟨v', hv', zz⟩ := R'.at_slot e3
      rw [hv] at hv'; cases hv'
      exact owc zz rfl
    · next u e3 =>
      cases er
      obtain ⟨v', hv', zz⟩ := R'.at_slot e3
      rw [hv] at hv'; cases hv'
      exact shc zz rfl
    · cases er
/-- what is known of the slots -/
inductive Sls (AV : Addr → Prop) (H : Hp) : Env → St → Prop
  | nil : Sls AV H [] []
  | skip {x : Option V} {ρ : Env} {σ : St} : Sls AV H ρ σ → Sls AV H (none :: ρ) (x :: σ)
  | cons {u : T} {v : V} {ρ : Env} {σ : St} : Dn AV H v u → Sls AV H ρ σ → Sls AV H (some (.sh u) :: ρ) (some v :: σ)
theorem Sls.len {AV : Addr → Prop} {H : Hp} : ∀ {ρ : Env} {σ : St}, Sls AV H ρ σ → ρ.length = σ.length
  | _, _, .nil => rfl
  | _, _, .skip t => by rw [List.length_cons, List.length_cons, t.len]
  | _, _, .cons _ t => by rw [List.length_cons, List.length_cons, t.len]
theorem Sls.get {AV : Addr → Prop} {H : Hp} : ∀ {ρ : Env} {σ : St} (i : Nat) (p : PV) (x : Option V), Sls AV H ρ σ → ρ[i]? = some (some p) → σ[i]? = some x → ∃ u v, p = .sh u ∧ x = some v ∧ Dn AV H v u
  | _, _, i, p, x, .nil, h, _ => by simp at h
  | _, _, 0, p, x, .skip t, h, _ => by simp at h
  | _, _, i + 1, p, x, .skip t, h, h' => Sls.get i p x t (by simpa using h) (by simpa using h')
  | _, _, 0, p, x, .cons d t, h, h' => by
    simp at h h'
    subst h h'
    exact ⟨_, _, rfl, rfl, d⟩
  | _, _, i + 1, p, x, .cons d t, h, h' => Sls.get i p x t (by simpa using h) (by simpa using h')
theorem downS {t : TE} {l : LE} {AV : Addr → Prop} {ρ : Env} {σ : St} {H : Hp} {Q : VK} (hs : ∀ G, Snd G t l) (hAV : ∀ a, AV a → Liv H a) (sl : Sls AV H ρ σ)
    (h : l ρ fun p ρ' => ∃ r, resT ρ' p = some r ∧ ∀ v H', Same H H' → DnRes AV H H' v r → Q v H') : t σ H Q := down hs sl.len hAV (fun i p x => sl.get i p x) h
/-- a call of what is read over trees -/
theorem spL_dn {lsp : LSp} {AV : Addr → Prop} {vs : List V} {ts : List T} {H : Hp} {Q : VK} {E : XK} (hAV : ∀ a, AV a → Liv H a) (d : Dns AV H vs ts)
    (h : lsp ts (fun p _ => ∀ v H', Same H H' → DnRes AV H H' v p → Q v H') (fun _ _ _ => False)) : spL false lsp vs H Q E := by
  refine ⟨AV, [], ts, _, _, fun a z => ⟨(by intro m; cases m), hAV a z⟩, ⟨rfl, d.up fun b z => .inl (z.elim id fun m => by cases m)⟩, h, fun p t' v H' q s ra => ?_, fun _ _ _ _ _ z => z.elim⟩
  obtain ⟨FB, hFB, _, z⟩ := ra
  refine q v H' (fun b o e => s b o (by intro m; cases m) e) ?_
  cases p with
  | sh r => exact Dn.up (fun b z => .inl (.inl z)) z.2
  | ow r =>
    obtain ⟨b, rfl, o⟩ := z
    exact ⟨b, FB, rfl, hFB, o.up fun c z => .inl (z.imp id fun m => by simpa using m)⟩
  | _ => exact z.elim
end
end LP
end
section
set_option maxRecDepth 100000
set_option maxHeartbeats 4000000
namespace LP
open PySem L2 LH
/-! ### plans: a street, and the tables of the houses asked for -/
theorem sLt_ne {a b : Str} (h : sLt a b) (e : a = b) : False := by subst e; exact sLt_irrefl _ h
theorem nodup_range : ∀ (n : Nat) (a : Int) (xs : List Int), xs.Nodup → (∀ x ∈ xs, a ≤ x ∧ x < a + n) → xs.length ≤ n
  | 0, a, xs, _, h => by
    cases xs with
    | nil => exact Nat.le_refl _
    | cons x r => have := h x List.mem_cons_self; omega
  | n + 1, a, xs, nd, h => by
    have h1 := nodup_range n a (xs.erase (a + n)) (nd.erase _) fun x hx => by
      have h2 := h x (List.mem_of_mem_erase hx)
      have h3 : x ≠ a + n := ((nd.mem_erase_iff).mp hx).1
      omega
    have h2 : xs.length ≤ (xs.erase (a + n)).length + 1 := by
      rw [List.length_erase]
      split <;> omega
    omega
theorem putF_len (f : Str) (v : V) : ∀ fs : List (Str × V), (putF f v fs).length ≤ fs.length + 1
  | [] => Nat.le_refl _
  | (g, x) :: r => by
    unfold putF
    split
    · simp
    · have := putF_len f v r
      simp; omega
theorem putF_len2 (f g : Str) (u v : V) : (putF f u (putF g v [])).length < 1000 := by
  have h1 := putF_len f u (putF g v [])
  have h2 := putF_len g v []
  simp at h2
  omega
theorem putF_len4 (f g h i : Str) (u v w x : V) : (putF f u (putF g v (putF h w (putF i x [])))).length < 1000 := by
  have h1 := putF_len f u (putF g v (putF h w (putF i x [])))
  have h2 := putF_len g v (putF h w (putF i x []))
  have h3 := putF_len h w (putF i x [])
  have h4 := putF_len i x []
  simp at h4
  omega
theorem putF_len3 (f g h : Str) (u v w : V) : (putF f u (putF g v (putF h w []))).length < 1000 := by
  have h1 := putF_len f u (putF g v (putF h w []))
  have h2 := putF_len g v (putF h w [])
  have h3 := putF_len h w []
  simp at h3
  omega
abbrev tableT (S : SData) : T := .tup [.lst (S.rooms.map T.str), .dic (S.doors.map fun d => ((Sum.inr d.name : Key), doorT d))]
def planF (sv : V) (D : TData) (tb : Addr) (tv : V) : List (Str × V) := [("_street", sv), ("_left", .int (D.first - 1)), ("_right", .int (D.first + D.odd.length)), ("_tables", .ref tb), ("_there", tv)]
structure TabsAt (av : Addr → Prop) (H : Hp) (D : TData) (kvs : List (Key × V)) : Prop where
  nd : (kvs.map Prod.fst).Nodup
  ok : ∀ k v, (k, v) ∈ kvs → ∃ h : Int, k = .inl h ∧ D.first - 1 ≤ h ∧ h < D.first - 1 + (D.odd.length + 2 : Nat) ∧ Dn av H v (tableT (D.at' h))
theorem TabsAt.len {av : Addr → Prop} {H : Hp} {D : TData} {kvs : List (Key × V)} (h : TabsAt av H D kvs) : kvs.length ≤ D.odd.length + 2 := by
  let f : Key → Int := fun k => match k with
    | .inl h => h
    | .inr _ => 0
  have nd : ((kvs.map Prod.fst).map f).Nodup := by
    unfold List.Nodup
    rw [List.pairwise_map]
    have key : ∀ k ∈ kvs.map Prod.fst, ∃ h : Int, k = .inl h := fun k hk => by
      obtain ⟨⟨k', v⟩, m, rfl⟩ := List.mem_map.mp hk
      obtain ⟨h, e, _⟩ := h.ok k' v m
      exact ⟨h, e⟩
    refine List.Pairwise.imp_of_mem ?_ h.nd
    intro a b ha hb n e
    obtain ⟨x, rfl⟩ := key a ha
    obtain ⟨y, rfl⟩ := key b hb
    exact n (by rw [show x = y from e])
  have z := nodup_range (D.odd.length + 2) (D.first - 1) _ nd fun x hx => by
    rw [List.map_map] at hx
    obtain ⟨⟨k, v⟩, m, rfl⟩ := List.mem_map.mp hx
    obtain ⟨h, e, h1, h2, _⟩ := h.ok k v m
    subst e
    exact ⟨h1, h2⟩
  simpa using z
theorem valV_mem {κ : Type} [DecidableEq κ] {kvs : List (κ × V)} {k : κ} {v : V} (h : valV kvs k = some v) : (k, v) ∈ kvs := by
  unfold valV at h
  cases e : kvs.find? fun kv => decide (kv.1 = k) with
  | none => rw [e] at h; cases h
  | some q =>
    rw [e] at h
    cases h
    have h1 := List.mem_of_find?_eq_some e
    have h2 : q.1 = k := by simpa using List.find?_some e
    rw [← h2]
    exact h1
theorem valV_none {κ : Type} [DecidableEq κ] {kvs : List (κ × V)} {k : κ} (h : valV kvs k = none) : k ∉ kvs.map Prod.fst := by
  unfold valV at h
  intro m
  obtain ⟨q, hq, rfl⟩ := List.mem_map.mp m
  cases e : kvs.find? fun kv => decide (kv.1 = q.1) with
  | none =>
    have := List.find?_eq_none.mp e q hq
    simp at this
  | some r => rw [e] at h; cases h
theorem putK_new {κ : Type} [DecidableEq κ] {kvs : List (κ × V)} {k : κ} {v : V} (h : valV kvs k = none) : putK kvs k v = kvs ++ [(k, v)] := by
  unfold putK
  rw [if_neg]
  intro z
  obtain ⟨q, hq, e⟩ := List.any_eq_true.mp z
  exact valV_none h (List.mem_map.mpr ⟨q, hq, by simpa using e⟩)
theorem valV_same {κ : Type} [DecidableEq κ] {kvs : List (κ × V)} {k : κ} {v : V} : valV (kvs ++ [(k, v)]) k ≠ none := by
  intro z
  exact valV_none z (by simp)
theorem valV_snoc {κ : Type} [DecidableEq κ] {kvs : List (κ × V)} {k : κ} {v : V} (h : valV kvs k = none) : valV (kvs ++ [(k, v)]) k = some v := by
  have e : kvs.find? (fun kv => decide (kv.1 = k)) = none := by
    unfold valV at h
    cases e : kvs.find? fun kv => decide (kv.1 = k) with
    | none => rfl
    | some q => rw [e] at h; cases h
  unfold valV
  rw [List.find?_append, e]
  simp
def planφ (CS CT CP : Addr) (D : TData) (av : Addr → Prop) (H : Hp) (a : Addr) (F : List Addr) : Prop := ∃ (dx tb : Addr) (sv tv : V) (kvs : List (Key × V)), F = [a, tb] ∧ H a = some (.ins CP dx (planF sv D tb tv)) ∧ H tb = some (.dK kvs) ∧ Dn av H sv (streetO CS CT D) ∧ TabsAt av H D kvs
def planQ (CS CT CP : Addr) (D : TData) : Opq where
  φ := planφ CS CT CP D
  fr := by
    rintro av H H' a F ⟨dx, tb, sv, tv, kvs, rfl, h1, h2, h3, h4⟩ f
    have f' : ∀ b o, ¬ av b → H b = some o → H' b = some o := fun b o n => f b o (.inl n)
    exact ⟨dx, tb, sv, tv, kvs, rfl, f _ _ (.inr (by simp)) h1, f _ _ (.inr (by simp)) h2, h3.fr f', h4.nd, fun k v m => by
      obtain ⟨h, e1, e2, e3, e4⟩ := h4.ok k v m
      exact ⟨h, e1, e2, e3, e4.fr f'⟩⟩
  up := by
    rintro av av' H a F ⟨dx, tb, sv, tv, kvs, rfl, h1, h2, h3, h4⟩ f
    exact ⟨dx, tb, sv, tv, kvs, rfl, h1, h2, h3.up f, h4.nd, fun k v m => by
      obtain ⟨h, e1, e2, e3, e4⟩ := h4.ok k v m
      exact ⟨h, e1, e2, e3, e4.up f⟩⟩
  al := by
    rintro av H a F ⟨dx, tb, sv, tv, kvs, rfl, h1, h2, h3, h4⟩ b hb
    rcases List.mem_cons.mp hb with rfl | hb
    · exact ⟨_, h1, fun _ z => by cases z⟩
    · rw [List.mem_singleton] at hb
      subst hb
      exact ⟨_, h2, fun _ z => by cases z⟩
  lk := by
    rintro av H H' a F ⟨dx, tb, sv, tv, kvs, rfl, h1, h2, h3, h4⟩ f g hF
    exact ⟨dx, tb, sv, tv, kvs, rfl, by rw [hF _ (by simp)]; exact h1, by rw [hF _ (by simp)]; exact h2, h3.lk f g, h4.nd, fun k v m => by
      obtain ⟨h, e1, e2, e3, e4⟩ := h4.ok k v m
      exact ⟨h, e1, e2, e3, e4.lk f g⟩⟩
def planT (CS CT CP : Addr) (D : TData) : T := .opq (planQ CS CT CP D)
theorem lookup_cons_ne {κ α : Type} [BEq κ] [LawfulBEq κ] {k k' : κ} {v : α} {r : List (κ × α)} (h : ¬ k = k') : ((k', v) :: r).lookup k = r.lookup k := by
  rw [List.lookup_cons, beq_false_of_ne h]
section
variable (sv : V) (D : TData) (tb : Addr) (tv : V)
theorem planF_street : (planF sv D tb tv).lookup ("_street" : Str) = some sv := by
  unfold planF; rw [List.lookup_cons_self]
theorem planF_left : (planF sv D tb tv).lookup ("_left" : Str) = some (.int (D.first - 1)) := by
  unfold planF; rw [lookup_cons_ne (by decide +kernel), List.lookup_cons_self]
theorem planF_right : (planF sv D tb tv).lookup ("_right" : Str) = some (.int (D.first + D.odd.length)) := by
  unfold planF; rw [lookup_cons_ne (by decide +kernel), lookup_cons_ne (by decide +kernel), List.lookup_cons_self]
theorem planF_tables : (planF sv D tb tv).lookup ("_tables" : Str) = some (.ref tb) := by
  unfold planF; rw [lookup_cons_ne (by decide +kernel), lookup_cons_ne (by decide +kernel), lookup_cons_ne (by decide +kernel), List.lookup_cons_self]
theorem planF_there : (planF sv D tb tv).lookup ("_there" : Str) = some tv := by
  unfold planF; rw [lookup_cons_ne (by decide +kernel), lookup_cons_ne (by decide +kernel), lookup_cons_ne (by decide +kernel), lookup_cons_ne (by decide +kernel), List.lookup_cons_self]
theorem planF_no {m : Str} (h1 : ¬ m = "_street") (h2 : ¬ m = "_left") (h3 : ¬ m = "_right") (h4 : ¬ m = "_tables") (h5 : ¬ m = "_there") : (planF sv D tb tv).lookup m = none := by
  unfold planF; rw [lookup_cons_ne h1, lookup_cons_ne h2, lookup_cons_ne h3, lookup_cons_ne h4, lookup_cons_ne h5]; rfl
theorem planF_eq : putF "_there" tv (putF "_tables" (.ref tb) (putF "_right" (.int (D.first + D.odd.length)) (putF "_left" (.int (D.first - 1)) (putF "_street" sv [])))) = planF sv D tb tv := by
  have h1 : ¬ (("_street" : Str) = "_left") := by decide +kernel
  have h2 : ¬ (("_street" : Str) = "_right") := by decide +kernel
  have h3 : ¬ (("_street" : Str) = "_tables") := by decide +kernel
  have h4 : ¬ (("_left" : Str) = "_right") := by decide +kernel
  have h5 : ¬ (("_left" : Str) = "_tables") := by decide +kernel
  have h6 : ¬ (("_right" : Str) = "_tables") := by decide +kernel
  have h7 : ¬ (("_street" : Str) = "_there") := by decide +kernel
  have h8 : ¬ (("_left" : Str) = "_there") := by decide +kernel
  have h9 : ¬ (("_right" : Str) = "_there") := by decide +kernel
  have h0 : ¬ (("_tables" : Str) = "_there") := by decide +kernel
  simp [putF, planF, h1, h2, h3, h4, h5, h6, h7, h8, h9, h0]
end
theorem plan_ins {CS CT CP : Addr} {D : TData} {m : Str} (h1 : ¬ m = "_street") (h2 : ¬ m = "_left") (h3 : ¬ m = "_right") (h4 : ¬ m = "_tables") (h5 : ¬ m = "_there") : OpqIns CP m (planT CS CT CP D) := by
  rintro av H a F ⟨dx, tb, sv, tv, kvs, rfl, e1, _⟩
  exact ⟨dx, _, e1, planF_no sv D tb tv h1 h2 h3 h4 h5⟩
/-- the nearest house whose sort a house has -/
def nearH (D : TData) (h : Int) : Int := if (if h < D.first - 1 then D.first - 1 else h) < D.first + D.odd.length then (if h < D.first - 1 then D.first - 1 else h) else D.first + D.odd.length
theorem near_at (D : TData) (h : Int) : D.at' (nearH D h) = D.at' h := by
  unfold nearH
  by_cases c : h < D.first - 1
  · rw [if_pos c, if_pos (by omega), TData.at_left (by omega), TData.at_left (by omega)]
  · rw [if_neg c]
    by_cases c2 : h < D.first + D.odd.length
    · rw [if_pos c2]
    · rw [if_neg c2, TData.at_right (by omega) (by omega), TData.at_right (by omega) (by omega)]
theorem near_in (D : TData) (h : Int) : D.first - 1 ≤ nearH D h ∧ nearH D h < D.first - 1 + (D.odd.length + 2 : Nat) := by
  unfold nearH
  split <;> split <;> omega
/-! promises -/
def lNearest (CS CT : Addr) : LSp := fun ts q _ => ∃ (D : TData) (z : Str), ts = [streetO CS CT D, .str z] ∧ D.odd.length ≤ 1000 ∧ q (.sh (.int (if z = "left" then D.first - 1 else D.first + D.odd.length))) .non
def spPlanInit (CS CT CP : Addr) : Sp := fun vs H Q _ => ∃ (x dx : Addr) (D : TData) (sv : V), vs = [.ref x, sv] ∧ H x = some (.ins CP dx []) ∧ Dn (fun q => q = x) H sv (streetO CS CT D) ∧ TOk D ∧
  ∀ H' tb tv, H tb = none → H' x = some (.ins CP dx (planF sv D tb tv)) → H' tb = some (.dK []) → Sb x H H' → Q .non H'
def mPlan (CS CT CP : Addr) (ts : List T) (P : T → Prop) : Prop := ∃ D, ts = [streetO CS CT D] ∧ TOk D ∧ P (planT CS CT CP D)
theorem mks_plan {CS CT CP : Addr} : MakeS CP (spPlanInit CS CT CP) (mPlan CS CT CP) := by
  rintro av H vs ts x dx Q P lv d nx nd ne ⟨D, rfl, ok, hP⟩ k
  cases d with | cons d1 d =>
    cases d
    have avx : ∀ b, (av b ∨ b = x) → av b ∨ H b = none := fun b z => z.imp id fun e => by rw [e]; exact nx
    have m1 := make_dns (C := CP) nx nd (Dns.one (Dn.up avx d1))
    cases m1 with | cons m1 _ =>
    refine ⟨x, dx, D, _, rfl, upd_same, m1.up (fun b z => .inl (.inr z)), ok, fun H' tb tv htb hx ht sb => ⟨rfl, ?_⟩⟩
    have sm := make_same nx nd sb
    obtain ⟨tb1, tb2⟩ := make_none htb
    refine k _ [x, tb] H' hP sm (fun b hb => ?_) ⟨dx, tb, _, tv, [], rfl, hx, ht, ?_, List.Pairwise.nil, fun k v m => by cases m⟩
    · rcases List.mem_cons.mp hb with rfl | hb
      · exact ⟨nx, _, hx, fun _ z => by cases z⟩
      · rw [List.mem_singleton] at hb; subst hb
        exact ⟨tb1, _, ht, fun _ z => by cases z⟩
    · refine Dn.fr (fun b o _ e => sm _ _ e) (Dn.up (fun b z => ?_) d1)
      rcases z with z | m
      · exact .inl z
      · rcases List.mem_cons.mp m with rfl | m
        · exact .inr nx
        · rw [List.mem_singleton] at m; subst m; exact .inr tb1
def lTable (CS CT CP : Addr) : LSp := fun ts q _ => ∃ D h, ts = [planT CS CT CP D, .int h] ∧ TOk D ∧ q (.sh (tableT (D.at' h))) (planT CS CT CP D)
def lRoomsOf (CS CT CP : Addr) : LSp := fun ts q _ => ∃ D h, ts = [planT CS CT CP D, .int h] ∧ TOk D ∧ q (.sh (.lst ((D.at' h).rooms.map T.str))) (planT CS CT CP D)
def isThere (D : TData) (h : Int) (room : Str) (d : Door) : Bool := decide (d.room = room) && decide (d.goal ∈ (D.at' (h + d.move)).rooms)
def lDoorsFrom (CS CT CP : Addr) : LSp := fun ts q _ => ∃ D h room, ts = [planT CS CT CP D, .tup [.int h, .str room]] ∧ TOk D ∧ q (.ow (.lst (((D.at' h).doors.filter (isThere D h room)).map doorT))) (planT CS CT CP D)
/-! the law's own -/
def lAtD : LSp := fun ts q _ => ∃ D h, ts = [streetT D, .int h] ∧ TOk D ∧ q (.sh (sortT (D.at' h))) .non
def lMadeO (CS CT : Addr) : LSp := fun ts q _ => ∃ D, ts = [streetT D] ∧ TOk D ∧ q (.ow (streetO CS CT D)) .non
def lMade (CS CT : Addr) : LSp := fun ts q _ => ∃ D, ts = [streetT D] ∧ TOk D ∧ q (.sh (streetO CS CT D)) .non
/-- what is new is handed on as shared -/
theorem spL_sh {io : Bool} {lsp lsp' : LSp} {vs : List V} {H : Hp} {Q : VK} {E : XK} (f : ∀ ts q x, lsp' ts q x → lsp ts (fun p t' => ∃ t, p = .ow t ∧ t.tree ∧ q (.sh t) t') x) (h : spL io lsp' vs H Q E) : spL io lsp vs H Q E := by
  obtain ⟨AV, F, ts, q, x, hAV, ha, hl, hq, hx⟩ := h
  have lF : ∀ b ∈ F, Liv H b := by
    cases io with
    | false => rw [ha.1]; intro b hb; cases hb
    | true => obtain ⟨a, vs', t, ts', rfl, rfl, o, d⟩ := ha; exact o.al
  refine ⟨AV, F, ts, _, x, hAV, ha, f _ _ _ hl, fun p t' v H' z s ra => ?_, hx⟩
  obtain ⟨t, rfl, tr, z⟩ := z
  obtain ⟨FB, hFB, io', b, rfl, o⟩ := ra
  have nFB : ∀ c ∈ FB, ¬ avF AV F c := fun c hc z => by
    have hn := (hFB c hc).1
    rcases z with z | z
    · obtain ⟨_, e, _⟩ := (hAV c z).2; rw [hn] at e; cases e
    · obtain ⟨_, e, _⟩ := lF c z; rw [hn] at e; cases e
  refine hq (.sh t) t' _ H' z s ⟨[], by simp, fun h a vs' e => ?_, rfl, o.dn tr nFB fun b z => z.imp id fun m => List.mem_append_left _ m⟩
  rw [List.append_nil]
  exact (io' h a vs' e).up fun b z => .inl (z.imp id fun m => List.mem_append_left _ m)
def lLawDoors : LSp := fun ts q _ => ∃ D h room, ts = [streetT D, .tup [.int h, .str room]] ∧ TOk D ∧ q (.ow (.lst (((D.at' h).doors.filter (isThere D h room)).map doorT))) .non
def lSteps (CS CT : Addr) : LSp := fun ts q _ => ∃ D h room, ts = [streetO CS CT D, .tup [.int h, .str room]] ∧ TOk D ∧ q (.ow (.lst ((((D.at' h).doors.filter (isThere D h room)).map Door.name).map T.str))) .non
theorem odd_at {D : TData} {h : Int} (c1 : ¬ h - D.first < 0) (c2 : h - D.first < D.odd.length) {α : Type} (f : SData → α) : atI (D.odd.map f) (h - D.first) = some (f (D.at' h)) := by
  have hk : (h - D.first).toNat < D.odd.length := by omega
  have e := List.getElem?_eq_getElem hk
  have e' : (D.odd.map f)[(h - D.first).toNat]? = some (f D.odd[(h - D.first).toNat]) := by rw [List.getElem?_map, e]; rfl
  have z := atI_nat e'
  rw [show (((h - D.first).toNat : Nat) : Int) = h - D.first by omega] at z
  rw [TData.at_odd c1 e]
  exact z
end LP
end
section
set_option maxRecDepth 100000
set_option maxHeartbeats 4000000
namespace LP
open PySem L2 LH
/-! ### data that is told by repr, compared by == -/
structure Shw (k n : Nat) (d : PyData) : Prop where
  lay : d.canLay0 = true
  dep : d.depth ≤ k
  shw : d.showable = true
  len : d.shown.length ≤ n
structure ShwA (k n : Nat) (ds : List PyData) : Prop where
  lay : PyData.canLayAll0 ds = true
  dep : PyData.depthAll ds ≤ k
  shw : PyData.showableAll ds = true
  len : ((PyData.shownAll ds).map (·.length)).sum + 2 * ds.length ≤ n
section
variable {k n k' n' : Nat} {d : PyData} {ds : List PyData}
theorem Shw.mono (h : Shw k n d) (hk : k ≤ k') (hn : n ≤ n') : Shw k' n' d := ⟨h.lay, Nat.le_trans h.dep hk, h.shw, Nat.le_trans h.len hn⟩
theorem ShwA.mono (h : ShwA k n ds) (hk : k ≤ k') (hn : n ≤ n') : ShwA k' n' ds := ⟨h.lay, Nat.le_trans h.dep hk, h.shw, Nat.le_trans h.len hn⟩
theorem Shw.sr (h : Shw k n d) (hn : n ≤ 16777216) : Sr d := ⟨PyData.hasDict_of_canLay d h.lay, h.shw, Nat.le_trans h.len hn⟩
theorem Shw.shaped (h : Shw k n d) (hk : k ≤ 64) : SeqAt.shaped d = true := by
  unfold SeqAt.shaped
  rw [h.lay, Bool.true_and, decide_eq_true_eq]
  exact Nat.le_trans h.dep hk
theorem Shw.eqv (h : Shw k n d) : PyData.eqv d d = true := SeqAt.eqv_refl _ h.lay
theorem ShwA.nil : ShwA k 0 [] := ⟨by simp [PyData.canLayAll0], by simp [PyData.depthAll], by simp [PyData.showableAll], by simp [PyData.shownAll]⟩
theorem ShwA.cons (h : Shw k n d) (t : ShwA k n' ds) : ShwA k (n + 2 + n') (d :: ds) := by
  refine ⟨?_, ?_, ?_, ?_⟩
  · simp only [PyData.canLayAll0, h.lay, t.lay, Bool.and_self]
  · simp only [PyData.depthAll]; exact Nat.max_le.mpr ⟨h.dep, t.dep⟩
  · simp only [PyData.showableAll, h.shw, t.shw, Bool.and_self]
  · have h1 := h.len
    have h2 := t.len
    simp only [PyData.shownAll, List.map_cons, List.sum_cons, List.length_cons]
    omega
theorem ShwA.all : ∀ {ds : List PyData}, (∀ d ∈ ds, Shw k n d) → ShwA k (ds.length * (n + 2)) ds
  | [], _ => ShwA.nil.mono (Nat.le_refl _) (Nat.zero_le _)
  | d :: r, h => by
    have t := ShwA.cons (h d List.mem_cons_self) (ShwA.all fun c hc => h c (List.mem_cons_of_mem _ hc))
    refine t.mono (Nat.le_refl _) ?_
    rw [List.length_cons, Nat.succ_mul]
    omega
theorem Shw.list (h : ShwA k n ds) : Shw (k + 1) (n + 3) (.list ds) := by
  refine ⟨?_, ?_, ?_, ?_⟩
  · simp only [PyData.canLay0, h.lay]
  · simp only [PyData.depth]; have := h.dep; omega
  · simp only [PyData.showable, h.shw]
  · have h1 := h.len
    have h2 := listText_len_le (PyData.shownAll ds)
    have h3 := PyData.shownAll_length ds
    simp only [PyData.shown]
    omega
theorem Shw.tuple (h : ShwA k n ds) : Shw (k + 1) (n + 3) (.tuple ds) := by
  refine ⟨?_, ?_, ?_, ?_⟩
  · simp only [PyData.canLay0, h.lay]
  · simp only [PyData.depth]; have := h.dep; omega
  · simp only [PyData.showable, h.shw]
  · have h1 := h.len
    have h2 := tupleText_len_le (PyData.shownAll ds)
    have h3 := PyData.shownAll_length ds
    simp only [PyData.shown]
    omega
theorem Shw.non : Shw 1 4 .none := ⟨by simp [PyData.canLay0], by simp [PyData.depth], by simp [PyData.showable], by decide +kernel⟩
theorem Shw.bl (b : Bool) : Shw 1 5 (.bool b) := ⟨by simp [PyData.canLay0], by simp [PyData.depth], by simp [PyData.showable], by cases b <;> decide +kernel⟩
theorem Shw.int {i : Int} {j : Nat} (h0 : 0 < j) (hj : j ≤ 500) (h : i.natAbs < 10 ^ j) : Shw 1 (j + 1) (.int i) := by
  refine ⟨by simp [PyData.canLay0], by simp [PyData.depth], ?_, ?_⟩
  · simp only [PyData.showable, decide_eq_true_eq]
    by_cases c : i.natAbs = 0
    · rw [c]; decide
    · rw [Nat.log2_lt c]
      refine Nat.lt_of_lt_of_le h (Nat.le_trans (Nat.pow_le_pow_right (by decide) hj) ?_)
      decide +kernel
  · show (Str.ofString (toString i)).length ≤ _
    rw [ofString_length]
    exact int_text_length_le10 h0 h
theorem Shw.str {z : Str} (h : Nm z) : Shw 1 82 (.str z) := by
  obtain ⟨_, h2, h3⟩ := h
  refine ⟨?_, by simp [PyData.depth], by simp [PyData.showable], ?_⟩
  · simp only [PyData.canLay0, PyData.strOk]
    rw [Array.all_eq_true']
    intro c hc
    have := (h3 c (by simpa using hc)).2
    simp; omega
  · have := StrLaws.reprText_len z fun c hc => by
      have := (h3 c hc).2
      have e : (16 : Nat) ^ 8 = 4294967296 := by decide
      omega
    simp only [PyData.shown]
    omega
theorem Shw.strs {zs : List Str} {m : Nat} (h : ∀ z ∈ zs, Nm z) (l : zs.length ≤ m) : Shw 2 (m * 84 + 3) (.list (zs.map PyData.str)) := by
  have z := ShwA.all (k := 1) (n := 82) (ds := zs.map PyData.str) fun d hd => by
    obtain ⟨z, hz, rfl⟩ := List.mem_map.mp hd
    exact Shw.str (h z hz)
  rw [List.length_map] at z
  exact Shw.list (z.mono (Nat.le_refl _) (Nat.mul_le_mul_right _ l))
end
theorem dat_strs (zs : List Str) : Dat (.lst (zs.map T.str)) (.list (zs.map PyData.str)) := .lst (dats_strs zs)
theorem dat_stand (h : Int) (r : Str) : Dat (.tup [.int h, .str r]) (.tuple [.int h, .str r]) := .tup (.cons (.int _) (.cons (.str _) .nil))
theorem shw_stand {h : Int} {r : Str} (hh : h.natAbs < 10 ^ 14) (hr : Nm r) : Shw 2 104 (.tuple [.int h, .str r]) := (Shw.tuple (ShwA.cons (Shw.int (j := 14) (by decide) (by decide) hh) (ShwA.cons (Shw.str hr) .nil))).mono (Nat.le_refl _) (by decide)
end LP
end
section
set_option maxRecDepth 100000
set_option maxHeartbeats 4000000
namespace LH
open PySem L2 LP PyProof.Rows
theorem _root_.L2.Room.units65 {k : Nat} {A : Around} (r : Room k A) : A.units + 65 < cLine := by have := r.un; omega
/-! ### repr of data, of data without lists but with empty dicts -/
mutual
inductive Lz (K : PySem.W.Frag) (H : Hp) : V → PyData → Prop
  | non : Lz K H .non .none
  | bl (b : Bool) : Lz K H (.bl b) (.bool b)
  | int (i : Int) : Lz K H (.int i) (.int i)
  | str (z : Str) : Lz K H (.str z) (.str z)
  | tup {a : Addr} {vs : List V} {ds : List PyData} : SqT K H a vs → Lzs K H vs ds → Lz K H (.ref a) (.tuple ds)
  | dic {a : Addr} : Rd H a (.dK []) → Lz K H (.ref a) (.dict [])
inductive Lzs (K : PySem.W.Frag) (H : Hp) : List V → List PyData → Prop
  | nil : Lzs K H [] []
  | cons {v : V} {d : PyData} {vs : List V} {ds : List PyData} : Lz K H v d → Lzs K H vs ds → Lzs K H (v :: vs) (d :: ds)
end
section
variable {X : Cx} {pins : List (Addr × Obj)} {σ : L2.St} {H : Hp} {s : Shared}
theorem dic_reads {a : Addr} (I : Inv X pins σ H s) (ha : Rd H a (.dK [])) : (a == sysModules) = false ∧ Reads s.heap (.ref a) (.dict []) (a :: [] ++ []) := by
  obtain ⟨_, hS, vs, rel, o, es, ep, h1, h2, h3, h4, h5, h6⟩ := dk_rd I.hok ha
  cases rel
  have e0 : es.toList = [] := by
    cases hh : es.toList with
    | nil => rfl
    | cons x l => rw [hh] at h5; cases h5
  exact ⟨hS, .dict h1 h2.1 h3 (by rw [e0]; exact .nil) (by rw [e0]; exact .nil)⟩
mutual
theorem Lz.reads (I : Inv X pins σ H s) : ∀ {d : PyData} {v : V} {u : Value}, Lz X.K H v d → RelV v u → ∃ as, Reads s.heap u d as ∧ sysModules ∉ as
  | _, _, _, .non, r => by cases r; exact ⟨_, .none, by simp⟩
  | _, _, _, .bl b, r => by cases r; exact ⟨_, .bool b, by simp⟩
  | _, _, _, .int i, r => by obtain ⟨t, rfl⟩ := r; exact ⟨_, .int i t, by simp⟩
  | _, _, _, .str z, r => by obtain ⟨t, rfl⟩ := r; exact ⟨_, .str z t, by simp⟩
  | _, _, _, .tup hs ha, r => by
    cases r
    obtain ⟨its, rv, ⟨o, ho, hc, n, hd⟩, _⟩ := I.tuple hs
    obtain ⟨as, hr, hn⟩ := Lzs.reads I (its := its) ha rv
    exact ⟨as, .tuple ho hc hd hr, hn⟩
  | _, _, _, .dic ha, r => by
    cases r
    obtain ⟨hS, rd⟩ := dic_reads I ha
    refine ⟨_, rd, fun m => ?_⟩
    simp only [List.append_nil, List.mem_singleton] at m
    rw [← m] at hS
    simp at hS
theorem Lzs.reads (I : Inv X pins σ H s) : ∀ {ds : List PyData} {vs : List V} {its : List Value}, Lzs X.K H vs ds → Vals vs its → ∃ as, ReadsAll s.heap its ds as ∧ sysModules ∉ as
  | _, _, _, .nil, r => by cases r; exact ⟨_, .nil, by simp⟩
  | _, _, _, .cons h hs, r => by
    cases r with
    | cons r1 r2 =>
      obtain ⟨as, q1, n1⟩ := Lz.reads I h r1
      obtain ⟨bs, q2, n2⟩ := Lzs.reads I hs r2
      exact ⟨_, .cons q1 q2, fun m => (List.mem_append.mp m).elim n1 n2⟩
end
end
def rReprZ (K : PySem.W.Frag) : List V → Hp → VK → Prop := fun xs H Q => rRepr K xs H Q ∨ ∃ x d, xs = [x] ∧ Lz K H x d ∧ d.showable = true ∧ d.shown.length ≤ 16777216 ∧ d.depth ≤ 20 ∧ Q (.str d.shown) H
section
variable {X : Cx}
theorem call_reprZ (hu : X.A.units + 64 < cLine) (hg : X.A.guards = some []) : CallR X (.builtin "repr") (rReprZ X.K) := by
  intro pins s σ H xs us Q I r h
  rcases h with h | ⟨x, d, rfl, hd, sh, sz, dp, q⟩
  · exact call_reprD hu hg pins s σ H xs us Q I r h
  · obtain ⟨u, rfl, ru⟩ := one_val r
    obtain ⟨as, rd, ns⟩ := hd.reads I ru
    have sz' : d.shown.length ≤ sizeLine := by rw [sizeLine_eq]; exact sz
    cases hd with
    | non => cases ru; exact PySem.P.repr_of_none ⟨.str _, H, I.tok _, ⟨_, rfl⟩, q⟩
    | bl b => cases ru; exact PySem.P.repr_of_bool ⟨.str _, H, I.tok _, ⟨_, rfl⟩, q⟩
    | int i =>
      obtain ⟨t, rfl⟩ := ru
      simp only [PyData.showable, decide_eq_true_eq] at sh
      exact PySem.P.repr_of_int sh ⟨.str _, H, I.tok _, ⟨_, rfl⟩, q⟩
    | str z =>
      obtain ⟨t, rfl⟩ := ru
      exact PySem.P.repr_of_str ⟨.str _, H, I.tok _, ⟨_, rfl⟩, q⟩ sz'
    | tup h1 h2 =>
      cases ru
      exact repr_of_reads' rd sh (fun _ => ns) hg (by omega) (fun _ _ e => e) (fun h' u tk hk => ⟨.str _, H, I.kept (t' := tk) hk, ⟨_, rfl⟩, q⟩) sz'
    | dic h1 =>
      cases ru
      exact repr_of_reads' rd sh (fun _ => ns) hg (by omega) (fun _ _ e => e) (fun h' u tk hk => ⟨.str _, H, I.kept (t' := tk) hk, ⟨_, rfl⟩, q⟩) sz'
end
end LH
namespace LP
open PySem L2 LH
mutual
/-- the tree is data without lists, its dicts empty -/
inductive Daz : T → PyData → Prop
  | non : Daz .non .none
  | bl (b : Bool) : Daz (.bl b) (.bool b)
  | int (i : Int) : Daz (.int i) (.int i)
  | str (z : Str) : Daz (.str z) (.str z)
  | tup {ts : List T} {ds : List PyData} : Dazs ts ds → Daz (.tup ts) (.tuple ds)
  | dic : Daz (.dic []) (.dict [])
inductive Dazs : List T → List PyData → Prop
  | nil : Dazs [] []
  | cons {t : T} {ts : List T} {d : PyData} {ds : List PyData} : Daz t d → Dazs ts ds → Dazs (t :: ts) (d :: ds)
end
section
variable {K : PySem.W.Frag} {t : T} {P : PV → Prop} {av : Addr → Prop} {H : Hp}
mutual
theorem Daz.lz : ∀ {t : T} {d : PyData} {v : V}, Daz t d → Dn av H v t → Lz K H v d
  | _, _, _, .non, h => by cases h; exact .non
  | _, _, _, .bl b, h => by cases h; exact .bl b
  | _, _, _, .int b, h => by cases h; exact .int b
  | _, _, _, .str b, h => by cases h; exact .str b
  | _, _, _, .tup ds, h => by cases h with | tup _ e d => exact .tup (SqT.of e) (Dazs.lz ds d)
  | _, _, _, .dic, h => by
    obtain ⟨a, ks, rfl, e, k, d⟩ := Rk.dic (.inl h)
    cases ks with
    | nil => exact .dic e
    | cons _ _ => cases k
theorem Dazs.lz : ∀ {ts : List T} {ds : List PyData} {vs : List V}, Dazs ts ds → Dns av H vs ts → Lzs K H vs ds
  | _, _, _, .nil, h => by cases h; exact .nil
  | _, _, _, .cons d ds, h => by cases h with | cons h hs => exact .cons (Daz.lz d h) (Dazs.lz ds hs)
end
theorem Daz.rk {t : T} {d : PyData} {v : V} (h : Daz t d) (r : Rk av H v t) : Lz K H v d := by
  cases h with
  | non => rw [r.non]; exact .non
  | bl b => rw [r.bl]; exact .bl b
  | int b => rw [r.int]; exact .int b
  | str b => rw [r.str]; exact .str b
  | tup ds => obtain ⟨a, vs, rfl, e, d⟩ := r.tup; exact .tup (SqT.of e) (ds.lz d)
  | dic =>
    obtain ⟨a, ks, rfl, e, k, d⟩ := r.dic
    cases ks with
    | nil => exact .dic e
    | cons _ _ => cases k
/-- told by repr, without layability -/
structure Shz (k n : Nat) (d : PyData) : Prop where
  dep : d.depth ≤ k
  shw : d.showable = true
  len : d.shown.length ≤ n
theorem Shw.shz {k n : Nat} {d : PyData} (h : Shw k n d) : Shz k n d := ⟨h.dep, h.shw, h.len⟩
theorem Shz.dic : Shz 1 2 (.dict []) := ⟨by simp [PyData.depth, PyData.depthKv], by simp [PyData.showable, PyData.showableKv], by decide +kernel⟩
theorem Shz.pair {k n m : Nat} {d e : PyData} (h1 : Shz k n d) (h2 : Shz k m e) : Shz (k + 1) (n + m + 7) (.tuple [d, e]) := by
  refine ⟨?_, ?_, ?_⟩
  · have := h1.dep
    have := h2.dep
    simp only [PyData.depth, PyData.depthAll]
    omega
  · simp only [PyData.showable, PyData.showableAll, h1.shw, h2.shw, Bool.and_self]
  · have a := h1.len
    have b := h2.len
    have c := tupleText_len_le (PyData.shownAll [d, e])
    simp only [PyData.shownAll, List.map_cons, List.map_nil, List.sum_cons, List.sum_nil, List.length_cons, List.length_nil] at c
    simp only [PyData.shown, PyData.shownAll]
    omega
/-- data that is told -/
def Dtz (t : T) (d : PyData) : Prop := Dat t d ∧ Shw 19 10000000 d ∨ Daz t d ∧ Shz 19 10000000 d
def vReprZ (ts : List T) (P : PV → Prop) : Prop := ∃ t d, ts = [t] ∧ (Dat t d ∧ Sr d ∧ d.depth ≤ 20 ∨ Daz t d ∧ Shz 20 16777216 d) ∧ P (.sh (.str d.shown))
theorem cls_reprZ : CallS (rReprZ K) vReprZ := by
  rintro av H xs ts Q P lv hx ⟨t, d, rfl, h, q⟩ k
  rcases h with ⟨h1, h2, h3⟩ | ⟨h1, h2⟩
  · exact .inl (cls_repr av H xs [t] Q P lv hx ⟨t, d, rfl, h1, h2, h3, q⟩ k)
  · obtain ⟨x, rfl, hx1⟩ := hx.one
    exact .inr ⟨x, d, rfl, h1.rk hx1, h2.shw, h2.len, h2.dep, k _ _ _ q (Nw.here (.str _))⟩
theorem v_reprZ {d : PyData} (h : Dtz t d) (q : P (.sh (.str d.shown))) : vReprZ [t] P :=
  ⟨t, d, rfl, h.imp (fun ⟨a, b⟩ => ⟨a, b.sr (by decide), Nat.le_trans b.dep (by decide)⟩) (fun ⟨a, b⟩ => ⟨a, Nat.le_trans b.dep (by decide), b.shw, Nat.le_trans b.len (by decide)⟩), q⟩
/-- a stand beside a thing -/
theorem dtz_pair {h : Int} {r : Str} {d : PyData} (hh : h.natAbs < 10 ^ 14) (hr : Nm r) (z : Dat t d ∧ Shw 18 9000 d ∨ t = .dic [] ∧ d = .dict []) : Dtz (.tup [.tup [.int h, .str r], t]) (.tuple [.tuple [.int h, .str r], d]) := by
  have s := shw_stand hh hr
  rcases z with ⟨h1, h2⟩ | ⟨rfl, rfl⟩
  · exact .inl ⟨.tup (.cons (dat_stand h r) (.cons h1 .nil)), (Shw.tuple (ShwA.cons (s.mono (by decide) (Nat.le_refl _)) (ShwA.cons h2 .nil))).mono (Nat.le_refl _) (by decide)⟩
  · exact .inr ⟨.tup (.cons (.tup (.cons (.int _) (.cons (.str _) .nil))) (.cons .dic .nil)), by
      have q := (s.shz).pair (Shz.dic |> fun z => (⟨Nat.le_trans z.dep (by decide), z.shw, z.len⟩ : Shz 2 2 _))
      exact ⟨Nat.le_trans q.dep (by decide), q.shw, Nat.le_trans q.len (by decide)⟩⟩
end
end LP
end
section
set_option maxRecDepth 100000
set_option maxHeartbeats 4000000
namespace LH
open PySem PySem.Spec L2 PyProof.Rows HT
/-! ### t[::-1] of a tuple -/
theorem rev_adjust (n : Nat) : Builtin.Slice.sliceAdjust none none (-1) (n : Int) = ((n : Int) - 1, -1) := by
  unfold Builtin.Slice.sliceAdjust
  simp
theorem rev_places (n : Nat) : Builtin.Slice.slicePlaces ((n : Int) - 1) (-1) (-1) = n := by
  unfold Builtin.Slice.slicePlaces
  have h1 : ¬ ((-1 : Int) > 0) := by omega
  simp only [h1, if_false]
  have e : (- -1 : Int) = 1 := by decide
  by_cases h : (n : Int) - 1 > -1
  · rw [if_pos h, e, Int.ediv_one]; omega
  · rw [if_neg h]; omega
theorem pick_rev (xs : Array Value) : ((List.range xs.size).filterMap fun (m : Nat) => xs[(((xs.size : Int) - 1) + (m : Int) * (-1)).toNat]?).toArray = xs.toList.reverse.toArray := by
  have e : (fun (m : Nat) => xs[(((xs.size : Int) - 1) + (m : Int) * (-1)).toNat]?) = fun m => xs[xs.size - 1 - m]? := by
    funext m
    have : (((xs.size : Int) - 1) + (m : Int) * (-1)).toNat = xs.size - 1 - m := by omega
    rw [this]
  rw [e]
  have h : ((List.range xs.size).map fun k => xs.size - 1 - k).filterMap (xs[·]?) = xs.toList.reverse := by
    rw [PySem.W.krv_range, List.filterMap_reverse, PySem.W.krv_all]
  rw [List.filterMap_map] at h
  exact congrArg List.toArray h
section
variable {prog : Program} {w : World} {A : Around} {E : Value → Shared → Prop} {s : Shared}
theorem sliceApplied_rev {sl : Addr} {vs : Value} {n : Nat} {Q : Int × Int × Nat → Shared → Prop} (hs : s.heap.IsSliceOf sl .none .none vs) (ps : IsPart vs (some (-1)))
    (h : Q ((n : Int) - 1, -1, n) s) : wpAny (model prog w) A (Builtin.Slice.sliceApplied (.ref sl) (pure (n : Int))) Q E s := by
  obtain ⟨os, hos, hcs, hds⟩ := id hs
  unfold Builtin.Slice.sliceApplied Builtin.Slice.sliceFields
  refine wpAny_bind (wpAny_bind (wpAny_field hos hds (x := .none) rfl (wpAny_bind (wpAny_field hos hds (x := .none) rfl (wpAny_bind (wpAny_field hos hds (x := vs) rfl (wpAny_pure ?_)))))))
  refine wpAny_bind (slicePart_ ps ?_)
  show wpAny _ _ (if ((-1 : Int) == 0) = true then _ else _) _ _ s
  rw [if_neg (by decide)]
  refine wpAny_bind (slicePart_none (wpAny_bind (slicePart_none (wpAny_bind (wpAny_pure ?_)))))
  show wpAny _ _ (match Builtin.Slice.sliceAdjust none none (-1) (n : Int) with | (lo, hi) => pure (lo, (-1 : Int), Builtin.Slice.slicePlaces lo hi (-1))) _ _ s
  rw [rev_adjust]
  show wpAny _ _ (pure ((n : Int) - 1, (-1 : Int), Builtin.Slice.slicePlaces ((n : Int) - 1) (-1) (-1))) _ _ s
  rw [rev_places]
  exact wpAny_pure h
theorem getItem_tuple_rev {t sl : Addr} {items : Array Value} {vs : Value} {Q : Value → Shared → Prop} (ht : IsTup s.heap t items) (hs : s.heap.IsSliceOf sl .none .none vs) (ps : IsPart vs (some (-1)))
    (h : Q (.ref s.heap.objs.size) { s with heap := s.heap.push { cls := .type "tuple", data := .seq items.toList.reverse.toArray } })
    (hsz : items.size ≤ sizeLine) : wpAny (model prog w) A (getItem (.ref t) (.ref sl)) Q E s := by
  have htake : sizeOk (.seq items.toList.reverse.toArray) := by
    show items.toList.reverse.toArray.size ≤ sizeLine
    rw [List.size_toArray, List.length_reverse, Array.length_toList]
    exact hsz
  obtain ⟨os, hos, hcs, hds⟩ := id hs
  have hTs : s.TypeIs (.ref sl) "slice" := ⟨os, hos, hcs⟩
  unfold getItem
  try with_reducible refine wpAny_holding ?_
  first | refine wpAny_bind (wpAny_pure ?_) | skip
  refine wpAny_bind (wpAny_sequenceKey ht.typeIs (by decide) ?_)
  refine wpAny_bind (wpAny_callSpecial?_slot (name := Str.ofString "__getitem__") ht.typeIs PyProof.Rows.slot_tuple_getitem
    (wpAny_call_entry PyProof.Rows.slot_tuple_getitem ht.typeIs entry_tuple_getitem ?_ (args_tuple_getitem _ _)))
  show wpAny _ _ (Builtin.Tuple.tupleItemsOf (.ref t) >>= _) _ _ s
  refine wpAny_bind (tupleItemsOf_ ht ?_)
  refine wpAny_bind (wpAny_typeOf hTs ?_)
  rw [if_pos (by decide)]
  refine wpAny_bind (sliceApplied_rev hs ps ?_)
  have hno : ¬ ((((items.size : Int) - 1) == 0 && (-1 : Int) == 1 && items.size == items.size) = true) := by
    intro q
    rw [Bool.and_eq_true, Bool.and_eq_true] at q
    exact absurd q.1.2 (by decide)
  show wpAny _ _ (if (((items.size : Int) - 1) == 0 && (-1 : Int) == 1 && items.size == items.size) = true then _ else _) _ _ s
  rw [if_neg hno, pick_rev]
  first
    | exact wpAny_bind (m := Builtin.Tuple.tupleExact _) (wpAny_newObj_type (wpAny_pure ⟨_, rfl, wpAny_pure h⟩) htake)
    | exact wpAny_bind (m := Builtin.Tuple.tupleExact _) (wpAny_newObj_type (wpAny_bind (wpAny_pure (wpAny_pure ⟨_, rfl, wpAny_pure h⟩))) htake)
    | exact wpAny_bind (wpAny_bind (m := Builtin.Tuple.tupleExact _) (wpAny_newObj_type (wpAny_pure (wpAny_pure ⟨_, rfl, wpAny_pure h⟩)) htake))
    | exact wpAny_bind (wpAny_bind (m := Builtin.Tuple.tupleExact _) (wpAny_newObj_type (wpAny_pure ⟨_, rfl, wpAny_pure h⟩) htake))
end
section
variable {X : Cx}
def tRevT (K : PySem.W.Frag) (te : TE) : TE := fun σ H Q => te σ H fun x H1 => ∃ a xs, x = .ref a ∧ SqT K H1 a xs ∧ ∀ p, H1 p = none → Q (.ref p) (upd H1 p (.tup xs.reverse))
theorem pe_revT {e : Expr} {te : TE} {k : Nat} {p1 p2 p3 pos : Pos} (he : PE X e te) : PE X (.Subscript e (.Slice none none (some (.UnaryOp .USub (.Constant (.int 1) k p1) p2)) p3) pos) (tRevT X.K te) := by
  refine ⟨fun pins s σ H Q I h => ?_⟩
  refine Subscript_ (thn (he.run pins s σ H _ I h) fun v s1 ⟨x, H1, I1, r1, q1⟩ => ?_)
  obtain ⟨a, xs, ex, hx, q⟩ := q1
  subst ex
  cases r1
  have hst : PO X (some (.UnaryOp .USub (.Constant (.int 1) k p1) p2)) (tPart (tUn (rU fun i => .int (-i)) (tC (.int 1)))) := po_some (pe_un un_neg pe_int)
  refine wpAny_Slice (thn (po_none.run pins s1 σ H1 (fun o H2 => o = none ∧ H2 = H1) I1 ⟨rfl, rfl⟩) fun vl s2 ⟨l, H2, I2, pl, el, e2⟩ => ?_)
  subst el e2
  refine thn (po_none.run pins s2 σ H2 (fun o H3 => o = none ∧ H3 = H2) I2 ⟨rfl, rfl⟩) fun vu s3 ⟨u, H3, I3, pu, eu, e3⟩ => ?_
  subst eu e3
  refine thn (hst.run pins s3 σ H3 (fun o H4 => o = some (-1) ∧ H4 = H3) I3 ⟨1, rfl, -1, rfl, rfl, rfl⟩) fun vs s4 ⟨o, H4, I4, ps, eo, e4⟩ => ?_
  subst eo e4
  have I5 : Inv X pins σ H4 { s4 with heap := s4.heap.push { cls := .type "slice", data := .fields #[vl, vu, vs] } } := I4.kept (t' := s4.toks) fun b ob q => Heap.get?_push_of_some _ q
  obtain ⟨its, r, ht, hz⟩ := I5.tuple hx
  cases pl
  cases pu
  have hlen := r.length
  show wpAny (model X.prog X.w) X.A (subscriptTail e (.Slice none none (some (.UnaryOp .USub (.Constant (.int 1) k p1) p2)) p3) (.ref a) (.ref s4.heap.objs.size)) (EP X pins σ Q) X.xe { s4 with heap := s4.heap.push { cls := .type "slice", data := .fields #[.none, .none, vs] } }
  refine tail_any (ops := [.ref a, .ref s4.heap.objs.size]) ht.typeIs (PyProof.Rows.slot_tuple_getitem.lookup) ?_ (by with_unfolding_all rfl)
  refine getItem_tuple_rev ht (Heap.IsSliceOf.new _ .none .none vs) ps ?_ (by rw [List.size_toArray]; omega)
  refine ⟨.ref _, _, I5.laid (t' := s4.toks) (o := .tup xs.reverse) (fun b ob q => Heap.get?_push_of_some _ q) (Nat.le_refl _) ?_, rfl, q _ (I5.hok.fresh (Nat.le_refl _))⟩
  exact ⟨by rw [List.length_reverse]; exact hz, _, r.reverse, IsTup.new _ _⟩
end
end LH
namespace LP
open PySem L2 LH
section
variable {ta te : TE} {la le lo : LE} {K : PySem.W.Frag}
theorem Rk.tupD {av : Addr → Prop} {H : Hp} {x : V} {ts : List T} (h : Rk av H x (.tup ts)) : Dn av H x (.tup ts) := by
  rcases h with h | ⟨a, _, rfl, h⟩
  · exact h
  · exact h.elim
def lRevT (le : LE) : LE := fun ρ Q => le ρ fun p ρ1 => ∃ ts, val ρ1 p = some (.tup ts) ∧ Q (.sh (.tup ts.reverse)) ρ1
theorem live_none {av : Addr → Prop} {H : Hp} (lv : ∀ a, av a → Liv H a) {p : Addr} (hp : H p = none) : ¬ av p := fun z => by
  obtain ⟨o, e, _⟩ := lv p z
  rw [hp] at e; cases e
theorem sn_revT (h : Snd G te le) : Snd G (tRevT K te) (lRevT le) := by
  intro ρ σ S H Q P R0 q k
  refine h ρ σ S H _ _ R0 q fun p ρ1 x H1 h1 R1 => ?_
  obtain ⟨ts, e, h2⟩ := h1
  obtain ⟨w, R1⟩ := R1
  obtain ⟨a, vs, rfl, e1, d⟩ := (R1.rk R1.top e).tup
  exact ⟨a, vs, rfl, SqT.of e1, fun p hp => k _ _ _ _ h2 (R1.pop.res (Nw.tup hp (live_none R1.live hp) d.rev))⟩
def kRevT (p : PV) (ρ : Env) (Q : PV → Env → Prop) : Prop := ∃ ts, val ρ p = some (.tup ts) ∧ Q (.sh (.tup ts.reverse)) ρ
theorem w_revT {ρ : Env} {Q : PV → Env → Prop} (h : le ρ fun p ρ1 => kRevT p ρ1 Q) : lRevT le ρ Q := h
theorem w_krevT {ρ : Env} {Q : PV → Env → Prop} {p : PV} {ts : List T} (e : val ρ p = some (.tup ts)) (h : Q (.sh (.tup ts.reverse)) ρ) : kRevT p ρ Q := ⟨ts, e, h⟩
/-! + of tuples, slices of tuples -/
def vCatA (s t : T) (P : PV → Prop) : Prop := ∃ xs ys, s = .tup xs ∧ t = .tup ys ∧ xs.length + ys.length ≤ 16777216 ∧ P (.sh (.tup (xs ++ ys)))
theorem ops_catA : OpS (rCatA K) vCatA := by
  rintro av H x y s t Q P lv hx hy ⟨xs, ys, rfl, rfl, l, q⟩ k
  have hx' := hx.tupD
  have hy' := hy.tupD
  obtain ⟨a, vs, rfl, e1, d1⟩ := hx.tup
  obtain ⟨b, us, rfl, e2, d2⟩ := hy.tup
  refine ⟨a, b, vs, us, rfl, rfl, SqT.of e1, SqT.of e2, by rw [d1.len, d2.len, sizeLine_eq]; exact l, fun e => ?_, fun n e => ?_, fun n1 n2 p hp => k _ _ _ q (Nw.tup hp (live_none lv hp) (d1.app d2))⟩
  · subst e
    cases d1
    exact k _ _ _ q (Nw.here hy')
  · subst e
    cases d2
    rw [List.append_nil] at q
    exact k _ _ _ q (Nw.here hx')
theorem v_catA {xs ys : List T} {P : PV → Prop} (l : xs.length + ys.length ≤ 16777216) (h : P (.sh (.tup (xs ++ ys)))) : vCatA (.tup xs) (.tup ys) P := ⟨xs, ys, rfl, rfl, l, h⟩
def vSlA (s : T) (lo hi : Option Int) (Q : PV → Prop) : Prop := ∃ ts, s = .tup ts ∧ Q (.sh (.tup (cutT ts lo hi)))
theorem sls_A : SlS (rSlA K) vSlA := by
  rintro av H x s lo hi Q P lv hx ⟨ts, rfl, q⟩ k
  have hx' := hx.tupD
  obtain ⟨a, vs, rfl, e, d⟩ := hx.tup
  refine ⟨a, vs, rfl, SqT.of e, fun z => ?_, fun _ p hp => k _ _ _ q (Nw.tup hp (live_none lv hp) (d.cut lo hi))⟩
  have ec : cutT ts lo hi = ts := by
    unfold cutT
    rw [← d.len, z.1, z.2, d.len, List.drop_zero, Nat.sub_zero, List.take_length]
  rw [ec] at q
  exact k _ _ _ q (Nw.here hx')
theorem v_slA {ts : List T} {lo hi : Option Int} {P : PV → Prop} (h : P (.sh (.tup (cutT ts lo hi)))) : vSlA (.tup ts) lo hi P := ⟨ts, rfl, h⟩
/-! of what kind a thing is -/
def isIntT : T → Bool
  | .int _ => true
  | .bl _ => true
  | _ => false
def isBlT : T → Bool
  | .bl _ => true
  | _ => false
def isStrT : T → Bool
  | .str _ => true
  | _ => false
def isTupT : T → Bool
  | .tup _ => true
  | _ => false
def isLstT : T → Bool
  | .lst _ => true
  | _ => false
/-- of a built-in kind -/
def T.kn (t : T) : Prop := tyOfT t ≠ none
theorem T.kn.of {t : T} (h : t.kn) : ∃ n, tyOfT t = some n := by
  cases e : tyOfT t with
  | none => exact (h e).elim
  | some n => exact ⟨n, rfl⟩
theorem kit_int {s : T} {n : String} (e : tyOfT s = some n) : PySem.W.kitOne K (.type n) (.type "int") = some (isIntT s) := by cases s <;> cases e <;> with_unfolding_all rfl
theorem kit_bool {s : T} {n : String} (e : tyOfT s = some n) : PySem.W.kitOne K (.type n) (.type "bool") = some (isBlT s) := by cases s <;> cases e <;> with_unfolding_all rfl
theorem kit_str {s : T} {n : String} (e : tyOfT s = some n) : PySem.W.kitOne K (.type n) (.type "str") = some (isStrT s) := by cases s <;> cases e <;> with_unfolding_all rfl
theorem kit_tup {s : T} {n : String} (e : tyOfT s = some n) : PySem.W.kitOne K (.type n) (.type "tuple") = some (isTupT s) := by cases s <;> cases e <;> with_unfolding_all rfl
theorem kit_lst {s : T} {n : String} (e : tyOfT s = some n) : PySem.W.kitOne K (.type n) (.type "list") = some (isLstT s) := by cases s <;> cases e <;> with_unfolding_all rfl
variable {s : T} {P : PV → Prop}
theorem v_isi_int (h : s.kn) (q : P (.sh (.bl (isIntT s)))) : vIsi K [s, .ty "int"] P := let ⟨_, e⟩ := h.of; v_isi e rfl (kit_int e) q
theorem v_isi_bool (h : s.kn) (q : P (.sh (.bl (isBlT s)))) : vIsi K [s, .ty "bool"] P := let ⟨_, e⟩ := h.of; v_isi e rfl (kit_bool e) q
theorem v_isi_str (h : s.kn) (q : P (.sh (.bl (isStrT s)))) : vIsi K [s, .ty "str"] P := let ⟨_, e⟩ := h.of; v_isi e rfl (kit_str e) q
theorem v_isi_tup (h : s.kn) (q : P (.sh (.bl (isTupT s)))) : vIsi K [s, .ty "tuple"] P := let ⟨_, e⟩ := h.of; v_isi e rfl (kit_tup e) q
theorem v_isi_lst (h : s.kn) (q : P (.sh (.bl (isLstT s)))) : vIsi K [s, .ty "list"] P := let ⟨_, e⟩ := h.of; v_isi e rfl (kit_lst e) q
end
end LP
end
section
set_option maxRecDepth 100000
set_option maxHeartbeats 4000000
namespace LP
open PySem L2 LH
/-! ### things of any kind -/
/-- a short text of plain signs -/
def Sn (z : Str) : Prop := z.length ≤ 12 ∧ ∀ c ∈ z.cps.toList, c ≤ 127
theorem Sn.of {z : Str} (h : Nm z) : Sn z := ⟨Nat.le_trans h.2.1 (by decide), fun c hc => by have := (h.2.2 c hc).2; omega⟩
theorem Shw.sn {z : Str} (h : Sn z) : Shw 1 122 (.str z) := by
  obtain ⟨h2, h3⟩ := h
  refine ⟨?_, by simp [PyData.depth], by simp [PyData.showable], ?_⟩
  · simp only [PyData.canLay0, PyData.strOk]
    rw [Array.all_eq_true']
    intro c hc
    have := h3 c (by simpa using hc)
    simp; omega
  · have := StrLaws.reprText_len z fun c hc => by
      have := h3 c hc
      have e : (16 : Nat) ^ 8 = 4294967296 := by decide
      omega
    simp only [PyData.shown]
    omega
/-- a part of a thing -/
inductive El : T → Prop
  | non : El .non
  | bl (b : Bool) : El (.bl b)
  | int {i : Int} : i.natAbs < 10 ^ 31 → El (.int i)
  | str {z : Str} : Sn z → El (.str z)
  | tup0 : El (.tup [])
  | tup1 : El (.tup [.int 0])
  | lst1 : El (.lst [.str "a"])
theorem El.nm {z : Str} (h : Nm z) : El (.str z) := .str (.of h)
theorem El.dat {t : T} (h : El t) : ∃ d, Dat t d ∧ Shw 2 130 d := by
  cases h with
  | non => exact ⟨_, .non, Shw.non.mono (by decide) (by decide)⟩
  | bl b => exact ⟨_, .bl b, (Shw.bl b).mono (by decide) (by decide)⟩
  | int h => exact ⟨_, .int _, (Shw.int (j := 31) (by decide) (by decide) h).mono (by decide) (by decide)⟩
  | str h => exact ⟨_, .str _, (Shw.sn h).mono (by decide) (by decide)⟩
  | tup0 => exact ⟨_, .tup .nil, (Shw.tuple ShwA.nil (k := 1)).mono (by decide) (by decide)⟩
  | tup1 => exact ⟨_, .tup (.cons (.int _) .nil), (Shw.tuple (ShwA.cons (Shw.int (j := 1) (by decide) (by decide) (by decide)) .nil)).mono (by decide) (by decide)⟩
  | lst1 => exact ⟨_, .lst (.cons (.str _) .nil), (Shw.list (ShwA.cons (Shw.sn ⟨by decide, by decide⟩) .nil)).mono (by decide) (by decide)⟩
theorem El.kn {t : T} (h : El t) : t.kn := by cases h <;> (intro z; cases z)
theorem els_dat : ∀ {ts : List T}, (∀ t ∈ ts, El t) → ∃ ds, Dats ts ds ∧ ShwA 2 (ts.length * 132) ds
  | [], _ => ⟨[], .nil, ShwA.nil.mono (Nat.le_refl _) (Nat.zero_le _)⟩
  | t :: ts, h => by
    obtain ⟨d, h1, h2⟩ := (h t List.mem_cons_self).dat
    obtain ⟨ds, h3, h4⟩ := els_dat (ts := ts) fun u hu => h u (List.mem_cons_of_mem _ hu)
    refine ⟨d :: ds, .cons h1 h3, (ShwA.cons h2 h4).mono (Nat.le_refl _) ?_⟩
    rw [List.length_cons, Nat.succ_mul]
    omega
/-- a thing -/
inductive Th : T → Prop
  | el {t : T} : El t → Th t
  | dic : Th (.dic [])
  | tup {ts : List T} : ts.length ≤ 4 → (∀ t ∈ ts, El t) → Th (.tup ts)
  | lst {ts : List T} : ts.length ≤ 4 → (∀ t ∈ ts, El t) → Th (.lst ts)
theorem Th.kn {t : T} (h : Th t) : t.kn := by
  cases h with
  | el h => exact h.kn
  | _ => intro z; cases z
theorem Th.dtz {t : T} (h : Th t) : ∃ d, Dtz t d := by
  cases h with
  | el h =>
    obtain ⟨d, h1, h2⟩ := h.dat
    exact ⟨d, .inl ⟨h1, h2.mono (by decide) (by decide)⟩⟩
  | dic => exact ⟨_, .inr ⟨.dic, Nat.le_trans Shz.dic.dep (by decide), Shz.dic.shw, Nat.le_trans Shz.dic.len (by decide)⟩⟩
  | tup l h =>
    obtain ⟨ds, h1, h2⟩ := els_dat h
    exact ⟨_, .inl ⟨.tup h1, (Shw.tuple h2).mono (by decide) (by omega)⟩⟩
  | lst l h =>
    obtain ⟨ds, h1, h2⟩ := els_dat h
    exact ⟨_, .inl ⟨.lst h1, (Shw.list h2).mono (by decide) (by omega)⟩⟩
theorem Th.dz {t : T} (h : Th t) : ∃ d, Dat t d ∧ Shw 18 9000 d ∨ t = .dic [] ∧ d = .dict [] := by
  cases h with
  | el h =>
    obtain ⟨d, h1, h2⟩ := h.dat
    exact ⟨d, .inl ⟨h1, h2.mono (by decide) (by decide)⟩⟩
  | dic => exact ⟨_, .inr ⟨rfl, rfl⟩⟩
  | tup l h =>
    obtain ⟨ds, h1, h2⟩ := els_dat h
    exact ⟨_, .inl ⟨.tup h1, (Shw.tuple h2).mono (by decide) (by omega)⟩⟩
  | lst l h =>
    obtain ⟨ds, h1, h2⟩ := els_dat h
    exact ⟨_, .inl ⟨.lst h1, (Shw.list h2).mono (by decide) (by omega)⟩⟩
theorem Th.tlen {ts : List T} (h : Th (.tup ts)) : ts.length ≤ 4 := by
  cases h with
  | el h => cases h <;> decide
  | tup l h => exact l
theorem Th.two {a b : T} (h : Th (.tup [a, b])) : El a ∧ El b := by
  cases h with
  | el h => cases h
  | tup l h => exact ⟨h a List.mem_cons_self, h b (List.mem_cons_of_mem _ List.mem_cons_self)⟩
theorem Th.pair {a b : T} (ha : El a) (hb : El b) : Th (.tup [a, b]) := .tup (Nat.le_of_ble_eq_true rfl) fun t ht => by
  rcases List.mem_cons.mp ht with rfl | ht
  · exact ha
  · rcases List.mem_cons.mp ht with rfl | ht
    · exact hb
    · cases ht
/-- a whole number, no truth -/
def isWholeT : T → Bool
  | .int _ => true
  | _ => false
theorem isWhole_of {t : T} (h : isWholeT t = true) : ∃ i, t = .int i := by cases t <;> first | exact ⟨_, rfl⟩ | cases h
theorem isTup_of {t : T} (h : isTupT t = true) : ∃ us, t = .tup us := by cases t <;> first | exact ⟨_, rfl⟩ | cases h
theorem isStr_of {t : T} (h : isStrT t = true) : ∃ z, t = .str z := by cases t <;> first | exact ⟨_, rfl⟩ | cases h
theorem whole_no {t : T} (h : isIntT t = false) : isWholeT t = false := by cases t <;> first | rfl | cases h
theorem whole_bl {t : T} (h : isIntT t = true) : isWholeT t = !isBlT t := by cases t <;> first | rfl | cases h
def isTupOf (m : Int) : T → Bool
  | .tup ts => decide ((ts.length : Int) = m)
  | _ => false
theorem tupOf_no {m : Int} {t : T} (h : isTupT t = false) : isTupOf m t = false := by cases t <;> first | rfl | cases h
theorem tupOf2 {t : T} (h : isTupOf 2 t = true) : ∃ a b, t = .tup [a, b] := by
  cases t with
  | tup ts =>
    have e : (ts.length : Int) = 2 := by simpa [isTupOf] using h
    match ts, e with
    | [a, b], _ => exact ⟨a, b, rfl⟩
    | [], e => cases e
    | [_], e => cases e
    | _ :: _ :: _ :: _, e => simp at e; omega
  | _ => cases h
/-- a text that is one of these -/
def inStrs (zs : List Str) : T → Bool
  | .str z => decide (z ∈ zs)
  | _ => false
theorem shaped_strs {zs : List Str} (h : ∀ z ∈ zs, Nm z) (l : zs.length ≤ 18) : SeqAt.shaped (.list (zs.map PyData.str)) = true := (Shw.strs h l).shaped (by decide)
theorem any_strs (z : Str) (zs : List Str) : ((zs.map PyData.str).any fun d => PyData.eqv d (.str z)) = decide (z ∈ zs) := by
  rw [List.any_map, Bool.eq_iff_iff, List.any_eq_true, decide_eq_true_eq]
  constructor
  · rintro ⟨y, hy, e⟩
    have : y = z := by simpa [PyData.eqv] using e
    rw [← this]; exact hy
  · exact fun h => ⟨z, h, by simp [PyData.eqv]⟩
theorem any_no {zs : List Str} {d : PyData} (h : ∀ y : Str, PyData.eqv (.str y) d = false) : ((zs.map PyData.str).any fun z => PyData.eqv z d) = false := by
  rw [List.any_map, List.any_eq_false]
  intro y _
  show ¬ PyData.eqv (.str y) d = true
  rw [h y]
  decide
theorem v_inEl {t : T} {zs : List Str} {P : PV → Prop} (e : El t) (nz : ∀ z ∈ zs, Nm z) (l : zs.length ≤ 18) (h : P (.sh (.bl (inStrs zs t)))) : vInD false t (.lst (zs.map T.str)) P := by
  have sz := shaped_strs nz l
  cases e with
  | str s => exact ⟨_, _, .str _, dat_strs zs, (Shw.sn s).shaped (by decide), sz, by rw [any_strs]; exact h⟩
  | non => exact ⟨_, _, .non, dat_strs zs, by decide, sz, by rw [any_no (fun y => by simp [PyData.eqv])]; exact h⟩
  | bl b => exact ⟨_, _, .bl b, dat_strs zs, (Shw.bl b).shaped (by decide), sz, by rw [any_no (fun y => by simp [PyData.eqv])]; exact h⟩
  | int hi => exact ⟨_, _, .int _, dat_strs zs, (Shw.int (j := 31) (by decide) (by decide) hi).shaped (by decide), sz, by rw [any_no (fun y => by simp [PyData.eqv])]; exact h⟩
  | tup0 => exact ⟨_, _, .tup .nil, dat_strs zs, by decide, sz, by rw [any_no (fun y => by simp [PyData.eqv])]; exact h⟩
  | tup1 => exact ⟨_, _, .tup (.cons (.int _) .nil), dat_strs zs, by decide, sz, by rw [any_no (fun y => by simp [PyData.eqv])]; exact h⟩
  | lst1 => exact ⟨_, _, .lst (.cons (.str _) .nil), dat_strs zs, by decide +kernel, sz, by rw [any_no (fun y => by simp [PyData.eqv])]; exact h⟩
/-- whether a thing is a stand of the street -/
def isStandT (D : TData) : T → Bool
  | .tup [.int h, b] => decide (h.natAbs < 1000000000000) && inStrs (D.at' h).rooms b
  | _ => false
theorem stand_no {D : TData} {t : T} (h : isTupOf 2 t = false) : isStandT D t = false := by
  cases t with
  | tup ts =>
    have e : ¬ (ts.length : Int) = 2 := by simpa [isTupOf] using h
    match ts, e with
    | [a, b], e => exact (e rfl).elim
    | [], _ => rfl
    | [a], _ => cases a <;> rfl
    | a :: _ :: _ :: _, _ => cases a <;> rfl
  | _ => rfl
theorem stand_no1 {D : TData} {a b : T} (h : isWholeT a = false) : isStandT D (.tup [a, b]) = false := by cases a <;> first | rfl | cases h
def lIsWhole : LSp := fun ts q _ => ∃ t, ts = [t] ∧ t.kn ∧ q (.sh (.bl (isWholeT t))) .non
def lIsTupOf : LSp := fun ts q _ => ∃ t m, ts = [t, .int m] ∧ t.kn ∧ (∀ us, t = .tup us → us.length ≤ 16777216) ∧ q (.sh (.bl (isTupOf m t))) .non
def lIsStand (CS CT : Addr) : LSp := fun ts q _ => ∃ D t, ts = [streetO CS CT D, t] ∧ TOk D ∧ Th t ∧ q (.sh (.bl (isStandT D t))) .non
def lLawIsStand : LSp := fun ts q _ => ∃ D t, ts = [streetT D, t] ∧ TOk D ∧ Th t ∧ q (.sh (.bl (isStandT D t))) .non
def lStand : LSp := fun ts q _ => ∃ tp D n, ts = [tp, streetT D] ∧ PenOk n tp ∧ n + 10 < 2 ^ 62 ∧ TOk D ∧ ∀ (hh : Int) (r : Str) tp', hh.natAbs ≤ 60 → r ∈ (D.at' hh).rooms → PenOk (n + 4) tp' → q (.sh (.tup [.int hh, .str r])) tp'
def lBent : LSp := fun ts q _ => ∃ tp D t n, ts = [tp, streetT D, t] ∧ PenOk n tp ∧ n + 10 < 2 ^ 62 ∧ TOk D ∧ Th t ∧ ∀ u tp', Th u → PenOk (n + 6) tp' → q (.sh u) tp'
/-- an item that is there -/
theorem atI_some {α : Type} {ts : List α} {i : Int} (h0 : 0 ≤ i) (h1 : i < ts.length) : ∃ u, atI ts i = some u ∧ u ∈ ts := by
  have hk : i.toNat < ts.length := by omega
  have e := atI_nat (xs := ts) (List.getElem?_eq_getElem hk)
  rw [show ((i.toNat : Nat) : Int) = i by omega] at e
  exact ⟨_, e, List.getElem_mem hk⟩
end LP
end
section
set_option maxRecDepth 100000
set_option maxHeartbeats 4000000
namespace LP
open PySem L2 LH
/-! ### what is raised -/
abbrev XP := Addr → List (Str × T) → Env → Prop
def RX (G : Gh) (ρ : Env) (σ : St) (H : Hp) (d C : Addr) (fs : List (Str × T)) : Prop := R G ρ σ [(.ref 0, .cx 0 d C fs)] H
def XOk (G : Gh) (W : WX) (X : XP) : Prop := ∀ C fs ρ σ d H, RX G ρ σ H d C fs → X C fs ρ → W (.ref C) (some d) σ H
theorem xok_no {G : Gh} : XOk G (fun _ _ _ _ => False) (fun _ _ _ => False) := fun _ _ _ _ _ _ _ z => z
section
variable {G : Gh} {w : Addr → Option Loc} {ρ ρ' : Env} {σ : St} {S : Stk} {H H' : Hp} {v : V} {W : WX} {X : XP}
theorem RO.rx {d C : Addr} {fs : List (Str × T)} {fv : List (Str × V)} (r : RO G w ρ σ S H) (nd : ¬ G.av w d) (hd : H d = some (.xd fv)) (hf : fv.map Prod.fst = fs.map Prod.fst) (dd : Dns (G.av w) H (fv.map Prod.snd) (fs.map Prod.snd)) : RX G ρ σ H d C fs := by
  have z : R G ρ σ ((.ref 0, .cx 0 d C fs) :: (S ++ [])) H := ⟨w, by rw [List.append_nil]; exact r.push (p := .cx 0 d C fs) ⟨rfl, nd, fv, hd, hf, dd⟩⟩
  exact z.under
theorem RX.name {d C : Addr} {fs : List (Str × T)} (a : Addr) (r : RX G ρ σ H d C fs) : R G ρ σ [(.ref a, .cx a d C fs)] H := by
  obtain ⟨w, r⟩ := r
  exact ⟨w, r.pop.push (p := .cx a d C fs) ⟨rfl, r.top.2⟩⟩
def lCall0X (X : XP) (lsp : LSp) (l : LA) : LE := fun ρ Q => l ρ fun ps ρ1 => ∃ ts ρ2, frzs ρ1 ps = some (ts, ρ2) ∧ lsp ts (fun p _ => Q p ρ2) (fun C fs _ => X C fs ρ2)
theorem call0X_go {ps : List PV} {vs : List V} {ts : List T} {ρ2 : Env} {lsp : LSp} {Q : VK} {P : PV → Env → Prop} (hx : XOk G W X) (R1 : R G ρ σ (psh vs ps S) H) (hl : vs.length = ps.length) (e : frzs ρ ps = some (ts, ρ2))
    (h : lsp ts (fun p _ => P p ρ2) (fun C fs _ => X C fs ρ2)) (k : ∀ p ρ' v H', P p ρ' → R G ρ' σ ((v, p) :: S) H' → Q v H') : spL false lsp vs H Q (WE W σ) := by
  obtain ⟨⟨w, R2⟩, hl2⟩ := R.frzs R1 hl e
  refine ⟨G.av w, [], ts, _, _, fun a z => ⟨by simp, R2.live a z⟩, ⟨rfl, (R2.dns hl2).up fun b z => .inl (z.elim id fun m => by cases m)⟩, h, fun p t' v H' q s ra => ?_, fun C fs t' d H' q s ea => ?_⟩
  · exact k _ _ _ _ q (R2.unpsh.ret0 (fun b o e => s b o (by simp) e) ra)
  · obtain ⟨fv, nd, hd, hf, dd, _⟩ := ea
    exact hx C fs ρ2 σ d H' ((R2.unpsh.same fun b o e => s b o (by simp) e).rx (fun z => nd (.inl z)) hd hf (dd.up fun b z => .inl (.inl z))) q
theorem sn_call0X {lsp : LSp} {t : TA} {l : LA} (hx : XOk G W X) (ha : SndA G t l) : Snd G (tCallS (spL false lsp) (WE W) t) (lCall0X X lsp l) := by
  intro ρ σ S H Q P R0 q k
  refine ha ρ σ S H _ _ R0 q fun ps ρ1 vs H1 q1 hl R1 => ?_
  obtain ⟨ts, ρ2, e, q1⟩ := q1
  exact call0X_go hx R1 hl e q1 k
def call1X (X : XP) (lsp : LSp) (i : Nat) (ps : List PV) (ρ1 : Env) (Q : PV → Env → Prop) : Prop := ∃ ts ρ2 t m, frzs ρ1 ps = some (ts, ρ2) ∧ ownAt (ρ2[i]?) = some (t, m) ∧ lsp (t :: ts) (fun p t' => Q p (ρ2.set i (some (m t')))) (fun C fs t' => X C fs (ρ2.set i (some (m t'))))
theorem call1X_go {i : Nat} {x : V} {ps : List PV} {vs : List V} {lsp : LSp} {Q : VK} {P : PV → Env → Prop} (hx : XOk G W X) (R1 : R G ρ σ (psh vs ps ((x, .al i) :: S)) H) (hl : vs.length = ps.length)
    (h : call1X X lsp i ps ρ P) (k : ∀ p ρ' v H', P p ρ' → R G ρ' σ ((v, p) :: S) H' → Q v H') : spL true lsp (x :: vs) H Q (WE W σ) := by
  obtain ⟨ts, ρ2, t, m, e, ei, h⟩ := h
  obtain ⟨⟨w, R2⟩, hl2⟩ := R.frzs R1 hl e
  have das := R2.dns hl2
  have R3 := R2.unpsh
  have hx' : σ[i]? = some (some x) := R3.top
  obtain ⟨a, F, hv, o, f, mk, md, hi⟩ := slot_own R3 ei
  rw [hx'] at hv; cases hv
  have R4 := R3.pop
  let AV : Addr → Prop := fun b => G.av w b ∧ b ∉ F
  have toav : ∀ b, avF AV F b → G.av w b := fun b z => z.elim (·.1) fun m => .inr ⟨_, f b m⟩
  have ofav : ∀ b, G.av w b → avF AV F b := fun b z => by
    by_cases c : b ∈ F
    · exact .inr c
    · exact .inl ⟨z, c⟩
  have alsk : ∀ t' u j, (u, PV.al j) ∈ S → ∃ t2, (ρ2.set i (some (m t')))[j]? = some (some (.ow t2)) ∨ (ρ2.set i (some (m t')))[j]? = some (some (.fz t2)) ∨ (ρ2.set i (some (m t')))[j]? = some (some (.io t2)) := fun t' u j mem => by
    obtain ⟨t2, z⟩ := R4.als u j mem
    by_cases c : i = j
    · subst c
      rw [List.getElem?_set_self hi]
      rcases md t' with e | e
      · exact ⟨t', .inl (by rw [e])⟩
      · exact ⟨t', .inr (.inr (by rw [e]))⟩
    · exact ⟨t2, by rw [List.getElem?_set_ne c]; exact z⟩
  refine ⟨AV, F, t :: ts, _, _, fun b z => ⟨z.2, R4.live b z.1⟩, ⟨a, vs, t, ts, rfl, rfl, o.up fun b z => .inl (toav b z), das.up fun b z => .inl (toav b z)⟩, h, fun p t' v H' q s ra => ?_, fun C fs t' d H' q s ea => ?_⟩
  · obtain ⟨FB, hFB, io, res⟩ := ra
    have io' := io rfl a vs rfl
    have lF : ∀ b ∈ F, Liv H' b := io'.al
    refine k _ _ _ _ q (R4.afterL (l0 := .sl i) f (fun j z => by cases z) s hFB lF (by simp) (fun w1 c1 kp up2 => ⟨fun j p hp => ?_, ?_⟩) fun u j mm => ?_)
    · by_cases c : i = j
      · subst c
        rw [List.getElem?_set_self hi] at hp
        cases hp
        refine .inr fun x hx2 => ?_
        rw [hx'] at hx2; cases hx2
        refine ⟨_, rfl, mk w1 H' t' (io'.up fun b z => .inl ?_) fun b hb => kp b _ (f b hb)⟩
        rcases up2 b z with z | z
        · exact (ofav b z).imp id fun m => List.mem_append_left _ m
        · exact .inr (List.mem_append_right _ z)
      · rw [List.getElem?_set_ne c] at hp
        exact .inl ⟨hp, fun z => c (by cases z; rfl)⟩
    · cases p with
      | sh r =>
        obtain ⟨rfl, d⟩ := res
        exact Dn.up (fun b z => .inl (ofav b ((up2 b z).elim id fun m => by cases m))) d
      | ow r =>
        obtain ⟨b, rfl, ob⟩ := res
        refine ⟨b, FB, rfl, ob.up fun c z => .inl ?_, c1⟩
        rcases up2 c z with z | z
        · exact (ofav c z).imp id fun m => List.mem_append_left _ m
        · exact .inr (List.mem_append_right _ z)
      | _ => exact res.elim
    · refine alsk t' u j ?_
      rcases List.mem_cons.mp mm with e | mm
      · cases p <;> first | exact res.elim | cases e
      · exact mm
  · obtain ⟨fv, nd, hd, hf, dd, io⟩ := ea
    have io' := io rfl a vs rfl
    have lF : ∀ b ∈ F, Liv H' b := io'.al
    have z : R G (ρ2.set i (some (m t'))) σ ((.ref 0, .cx 0 d C fs) :: S) H' := R4.afterL (FB := []) (l0 := .sl i) f (fun j z => by cases z) s (fun c hc => by cases hc) lF (by simp) (fun w1 c1 kp up2 => ⟨fun j p hp => by
      by_cases c : i = j
      · subst c
        rw [List.getElem?_set_self hi] at hp
        cases hp
        refine .inr fun x hx2 => ?_
        rw [hx'] at hx2; cases hx2
        exact ⟨_, rfl, mk w1 H' t' (io'.up fun b z => .inl (ofav b ((up2 b z).elim id fun m => by cases m))) fun b hb => kp b _ (f b hb)⟩
      · rw [List.getElem?_set_ne c] at hp
        exact .inl ⟨hp, fun z => c (by cases z; rfl)⟩, ⟨rfl, fun z => nd (ofav d ((up2 d z).elim id fun m => by cases m)), fv, hd, hf, dd.up fun b z => .inl (ofav b ((up2 b z).elim id fun m => by cases m))⟩⟩) fun u j mm => alsk t' u j (by
      rcases List.mem_cons.mp mm with e | mm
      · cases e
      · exact mm)
    refine hx C fs _ σ d H' ?_ q
    have z2 : R G (ρ2.set i (some (m t'))) σ ((.ref 0, .cx 0 d C fs) :: (S ++ [])) H' := by rw [List.append_nil]; exact z
    exact z2.under
def lCall1X (X : XP) (lsp : LSp) (l : LA) : LE := fun ρ Q => l ρ fun ps ρ1 => ∃ i ps', ps = .al i :: ps' ∧ call1X X lsp i ps' ρ1 Q
theorem sn_call1X {lsp : LSp} {t : TA} {l : LA} (hx : XOk G W X) (ha : SndA G t l) : Snd G (tCallS (spL true lsp) (WE W) t) (lCall1X X lsp l) := by
  intro ρ σ S H Q P R0 q k
  refine ha ρ σ S H _ _ R0 q fun ps ρ1 vs H1 q1 hl R1 => ?_
  obtain ⟨i, ps', rfl, q1⟩ := q1
  match vs, hl with
  | x :: vs, hl => exact call1X_go hx (ps := ps') R1 (by simpa using hl) q1 k
def lMeth1X (X : XP) (C : Addr) (m : Str) (lsp : LSp) (la : LE) (l : LA) : LE := fun ρ Q => la ρ fun p ρ1 => ∃ i t md, p = .al i ∧ ownAt (ρ1[i]?) = some (t, md) ∧ OpqIns C m t ∧ l ρ1 fun ps ρ2 => call1X X lsp i ps ρ2 Q
theorem sn_meth1X {C : Addr} {m : Str} {lsp : LSp} {ta : TE} {la : LE} {t : TA} {l : LA} (hx : XOk G W X) (ha : Snd G ta la) (hl : SndA G t l) : Snd G (tMethS C m (spL true lsp) (WE W) ta t) (lMeth1X X C m lsp la l) := by
  intro ρ σ S H Q P R0 q k
  refine ha ρ σ S H _ _ R0 q fun p ρ1 x H1 q1 R1 => ?_
  obtain ⟨i, u, md, rfl, e1, op, q1⟩ := q1
  obtain ⟨w, R1'⟩ := id R1
  have hx' : σ[i]? = some (some x) := R1'.top
  obtain ⟨a, F, hv, o, _⟩ := slot_own R1' e1
  rw [hx'] at hv; cases hv
  obtain ⟨dx, fs, e2, e3⟩ := op.get o
  refine ⟨a, dx, fs, rfl, e2, e3, ?_⟩
  refine hl ρ1 σ _ H1 _ _ R1 q1 fun ps ρ2 vs H2 q2 hlen R2 => ?_
  exact call1X_go hx R2 hlen q2 k
/-- .. of a thing just made -/
def lMethTX (X : XP) (C : Addr) (m : Str) (lsp : LSp) (la : LE) (l : LA) : LE := fun ρ Q => la ρ fun p ρ1 => ∃ u, p = .ow u ∧ OpqIns C m u ∧ l ρ1 fun ps ρ2 => ∃ ts ρ3, frzs ρ2 ps = some (ts, ρ3) ∧ lsp (u :: ts) (fun p _ => Q p ρ3) (fun C fs _ => X C fs ρ3)
theorem sn_methTX {C : Addr} {m : Str} {lsp : LSp} {ta : TE} {la : LE} {t : TA} {l : LA} (hx : XOk G W X) (ha : Snd G ta la) (hl : SndA G t l) : Snd G (tMethS C m (spL true lsp) (WE W) ta t) (lMethTX X C m lsp la l) := by
  intro ρ σ S H Q P R0 q k
  refine ha ρ σ S H _ _ R0 q fun p ρ1 x H1 q1 R1 => ?_
  obtain ⟨u, rfl, op, q1⟩ := q1
  obtain ⟨w, R1'⟩ := id R1
  obtain ⟨a, F, rfl, o, _⟩ := R1'.top
  obtain ⟨dx, fs, e2, e3⟩ := op.get o
  refine ⟨a, dx, fs, rfl, e2, e3, ?_⟩
  refine hl ρ1 σ _ H1 _ _ R1 q1 fun ps ρ2 vs H2 q2 hlen R2 => ?_
  obtain ⟨ts, ρ3, e, h⟩ := q2
  obtain ⟨⟨w, R2⟩, hl2⟩ := R.frzs R2 hlen e
  have das := R2.dns hl2
  have R3 := R2.unpsh
  obtain ⟨a', F, ea, o, f⟩ := R3.top
  cases ea
  have R4 := R3.pop
  let AV : Addr → Prop := fun b => G.av w b ∧ b ∉ F
  have toav : ∀ b, avF AV F b → G.av w b := fun b z => z.elim (·.1) fun m => .inr ⟨_, f b m⟩
  have ofav : ∀ b, G.av w b → avF AV F b := fun b z => by
    by_cases c : b ∈ F
    · exact .inr c
    · exact .inl ⟨z, c⟩
  refine ⟨AV, F, u :: ts, _, _, fun b z => ⟨z.2, R4.live b z.1⟩, ⟨a, vs, u, ts, rfl, rfl, o.up fun b z => .inl (toav b z), das.up fun b z => .inl (toav b z)⟩, h, fun p t' v H' q s ra => ?_, fun C fs t' d H' q s ea => ?_⟩
  · obtain ⟨FB, hFB, io, res⟩ := ra
    have lF : ∀ b ∈ F, Liv H' b := (io rfl a vs rfl).al
    refine k _ _ _ _ q (R4.afterL (l0 := .pn S.length) (ρ' := ρ3) f (fun j z => by cases z; exact Nat.le_refl _) s hFB lF rfl (fun w1 c1 kp up2 => ⟨fun j p hp => .inl ⟨hp, fun z => by cases z⟩, ?_⟩) fun v j mm => ?_)
    · cases p with
      | sh r =>
        obtain ⟨rfl, d⟩ := res
        exact Dn.up (fun b z => .inl (ofav b ((up2 b z).elim id fun m => by cases m))) d
      | ow r =>
        obtain ⟨b, rfl, ob⟩ := res
        refine ⟨b, FB, rfl, ob.up fun c z => .inl ?_, c1⟩
        rcases up2 c z with z | z
        · exact (ofav c z).imp id fun m => List.mem_append_left _ m
        · exact .inr (List.mem_append_right _ z)
      | _ => exact res.elim
    · rcases List.mem_cons.mp mm with e | mm
      · cases p <;> first | exact res.elim | cases e
      · exact R4.als v j mm
  · obtain ⟨fv, nd, hd, hf, dd, io⟩ := ea
    have lF : ∀ b ∈ F, Liv H' b := (io rfl a vs rfl).al
    have z : R G ρ3 σ ((.ref 0, .cx 0 d C fs) :: S) H' := R4.afterL (FB := []) (l0 := .pn S.length) (ρ' := ρ3) f (fun j z => by cases z; exact Nat.le_refl _) s (fun c hc => by cases hc) lF rfl (fun w1 c1 kp up2 => ⟨fun j p hp => .inl ⟨hp, fun z => by cases z⟩,
      ⟨rfl, fun z => nd (ofav d ((up2 d z).elim id fun m => by cases m)), fv, hd, hf, dd.up fun b z => .inl (ofav b ((up2 b z).elim id fun m => by cases m))⟩⟩) fun u j mm => by
        rcases List.mem_cons.mp mm with e | mm
        · cases e
        · exact R4.als u j mm
    refine hx C fs _ σ d H' ?_ q
    have z2 : R G ρ3 σ ((.ref 0, .cx 0 d C fs) :: (S ++ [])) H' := by rw [List.append_nil]; exact z
    exact z2.under
end
end LP
end
section
set_option maxRecDepth 100000
set_option maxHeartbeats 4000000
namespace LP
open PySem L2 LH
/-! ### raise C(e, ..) of leaves -/
theorem dns_lfs {av : Addr → Prop} {H : Hp} : ∀ {ts : List T} {ws : List V}, lfVs ts = some ws → Dns av H ws ts
  | [], _, e => by cases e; exact .nil
  | t :: ts, ws, e => by
    unfold lfVs at e
    cases h1 : lfV t with
    | none => rw [h1] at e; cases e
    | some v =>
      cases h2 : lfVs ts with
      | none => rw [h1, h2] at e; cases e
      | some vs =>
        rw [h1, h2] at e
        cases e
        refine .cons ?_ (dns_lfs h2)
        cases t <;> cases h1
        · exact .non
        · exact .bl _
        · exact .int _
        · exact .str _
theorem rks_lfs {av : Addr → Prop} {H : Hp} : ∀ {xs : List V} {ts : List T} {ws : List V}, Rks av H xs ts → lfVs ts = some ws → xs = ws
  | _, _, _, .nil, e => by cases e; rfl
  | _, _, ws, .cons (t := t) (ts := ts) d ds, e => by
    unfold lfVs at e
    cases h1 : lfV t with
    | none => rw [h1] at e; cases e
    | some v =>
      cases h2 : lfVs ts with
      | none => rw [h1, h2] at e; cases e
      | some vs =>
        rw [h1, h2] at e
        cases e
        rw [lf_of d h1, rks_lfs ds h2]
def leafV : V → Bool
  | .non => true
  | .bl _ => true
  | .int _ => true
  | .str _ => true
  | _ => false
theorem leaf_lfs : ∀ {ts : List T} {ws : List V}, lfVs ts = some ws → ∀ x ∈ ws, leafV x = true
  | [], _, e, x, m => by cases e; cases m
  | t :: ts, ws, e, x, m => by
    unfold lfVs at e
    cases h1 : lfV t with
    | none => rw [h1] at e; cases e
    | some v =>
      cases h2 : lfVs ts with
      | none => rw [h1, h2] at e; cases e
      | some vs =>
        rw [h1, h2] at e
        cases e
        rcases List.mem_cons.mp m with rfl | m
        · cases t <;> cases h1 <;> rfl
        · exact leaf_lfs h2 x m
theorem lfs_len : ∀ {ts : List T} {ws : List V}, lfVs ts = some ws → ws.length = ts.length
  | [], _, e => by cases e; rfl
  | t :: ts, ws, e => by
    unfold lfVs at e
    cases h1 : lfV t with
    | none => rw [h1] at e; cases e
    | some v =>
      cases h2 : lfVs ts with
      | none => rw [h1, h2] at e; cases e
      | some vs => rw [h1, h2] at e; cases e; rw [List.length_cons, List.length_cons, lfs_len h2]
/-- an own __init__ that keeps what it is handed, by these names -/
def _root_.LH.spXInit (C : Addr) (ns : List Str) : Sp := fun vs H Q _ => ∃ (a : Addr) (ws : List V), vs = .ref a :: ws ∧ ws.length = ns.length ∧ (∀ x ∈ ws, leafV x = true) ∧ H a = some (exo a C none) ∧
  ∀ d H2, H d = none → d ≠ a → H2 a = some (exo a C (some d)) → H2 d = some (exd d (ns.zip ws).reverse) → (∀ b, b ≠ a → b ≠ d → H2 b = H b) → Q .non H2
section
variable {G : Gh} {w : Addr → Option Loc} {ρ ρ' : Env} {σ : St} {S : Stk} {H H' : Hp} {v : V} {W : WX} {X : XP} {K : PySem.W.Frag}
def lRaise (X : XP) (C : Addr) (ns : List Str) (la : LA) : LS := fun _ ρ => la ρ fun ps ρ1 => ∃ ts ws, vals ρ1 ps = some ts ∧ lfVs ts = some ws ∧ ts.length = ns.length ∧ ts.length ≤ 1000 ∧ X C (ns.zip ts).reverse ρ1
theorem zip_fst {α β : Type} : ∀ {xs : List α} {ys : List β}, ys.length = xs.length → (xs.zip ys).map Prod.fst = xs
  | [], [], _ => rfl
  | [], _ :: _, h => by cases h
  | _ :: _, [], h => by cases h
  | x :: xs, y :: ys, h => by rw [List.zip_cons_cons, List.map_cons, zip_fst (by simpa using h)]
theorem zip_snd {α β : Type} : ∀ {xs : List α} {ys : List β}, ys.length = xs.length → (xs.zip ys).map Prod.snd = ys
  | [], [], _ => rfl
  | [], _ :: _, h => by cases h
  | _ :: _, [], h => by cases h
  | x :: xs, y :: ys, h => by rw [List.zip_cons_cons, List.map_cons, zip_snd (by simpa using h)]
theorem sn_raise {C : Addr} {ns : List Str} {t : TA} {l : LA} (hx : XOk G W X) (ha : SndA G t l) : SndS G S (fun _ σ H => tMkO C (spXInit C ns) [] t σ H fun cls d H' => W cls d σ H') (lRaise X C ns l) := by
  intro D L ρ σ H n r e q
  refine ha ρ σ S H _ _ r q fun ps ρ1 vs H1 q1 hl R1 => ?_
  obtain ⟨ts, ws, e1, e2, l1, l2, q1⟩ := q1
  obtain ⟨w, R1⟩ := R1
  have ev := rks_lfs (R1.rks hl e1) e2
  subst ev
  have lw := lfs_len e2
  refine ⟨by omega, fun a ha0 => ?_⟩
  rw [List.append_nil]
  refine ⟨a, vs, rfl, by rw [lw, l1], leaf_lfs e2, upd_same, fun d H2 hd da h1 h2 h3 => ⟨rfl, d, _, h1, h2, ?_, ?_⟩⟩
  · rw [upd_ne da] at hd; exact hd
  · have hd1 : H1 d = none := by rw [upd_ne da] at hd; exact hd
    have eH : upd (L2.del H2 a) d (.xd (ns.zip vs).reverse) = upd H1 d (.xd (ns.zip vs).reverse) := by
      funext b
      by_cases c : b = d
      · rw [c, upd_same, upd_same]
      · rw [upd_ne c, upd_ne c]
        by_cases c2 : b = a
        · rw [c2, L2.del_same, ha0]
        · rw [L2.del_ne c2, h3 b c2 c, upd_ne c2]
    rw [eH]
    have sm : Same H1 (upd H1 d (.xd (ns.zip vs).reverse)) := Same.new (Same.refl H1) hd1
    refine hx C _ ρ1 σ d _ ((R1.unpsh.same sm).rx (fun z => ?_) upd_same ?_ ?_) q1
    · obtain ⟨o, e, _⟩ := R1.live d z
      rw [hd1] at e; cases e
    · rw [List.map_reverse, List.map_reverse, zip_fst (by rw [lw, l1]), zip_fst l1]
    · rw [List.map_reverse, List.map_reverse, zip_snd (by rw [lw, l1]), zip_snd l1]
      exact (dns_lfs e2).rev
/-! ### try, except C as e -/
def convP : PV → PV
  | .cx _ _ C fs => .sh (.exc C fs)
  | p => p
def convE (ρ : Env) : Env := ρ.map (Option.map convP)
/-- but this one exception none is held -/
def cxOk (a d C : Addr) : Env → Prop
  | some (.cx a' d' C' _) :: r => a' = a ∧ d' = d ∧ C' = C ∧ cxOk a d C r
  | _ :: r => cxOk a d C r
  | [] => True
theorem cxOk.at {a d C : Addr} : ∀ {ρ : Env} {i : Nat} {a' d' C' : Addr} {fs : List (Str × T)}, cxOk a d C ρ → ρ[i]? = some (some (.cx a' d' C' fs)) → a' = a ∧ d' = d ∧ C' = C
  | [], _, _, _, _, _, _, e => by simp at e
  | x :: ρ, 0, a', d', C', fs, h, e => by
    simp at e
    subst e
    exact ⟨h.1, h.2.1, h.2.2.1⟩
  | x :: ρ, i + 1, a', d', C', fs, h, e => by
    have e' : ρ[i]? = some (some (.cx a' d' C' fs)) := by simpa using e
    refine cxOk.at (ρ := ρ) ?_ e'
    unfold cxOk at h
    split at h
    · next h2 => cases h2; exact h.2.2.2
    · next h2 => cases h2; exact h
    · next h2 => cases h2
theorem convE_at {ρ : Env} {i : Nat} {p : PV} (h : (convE ρ)[i]? = some (some p)) : ∃ q, ρ[i]? = some (some q) ∧ convP q = p := by
  unfold convE at h
  rw [List.getElem?_map] at h
  cases e : ρ[i]? with
  | none => rw [e] at h; cases h
  | some o =>
    rw [e] at h
    cases o with
    | none => cases h
    | some q => exact ⟨q, rfl, Option.some.inj (Option.some.inj h)⟩
theorem at_conv {ρ : Env} {i : Nat} {p : PV} (h : ρ[i]? = some (some p)) : (convE ρ)[i]? = some (some (convP p)) := by
  unfold convE
  rw [List.getElem?_map, h]; rfl
/-- the exception is tracked from now on -/
theorem RO.conv {a d C : Addr} (r : RO G w ρ σ S H) (na : H a = none) (ok : cxOk a d C ρ) (nS : ∀ v a d C fs, (v, PV.cx a d C fs) ∉ S) : RO G w (convE ρ) σ S (upd H a (exH (.ref C) (some d) a)) := by
  have sm : Same H (upd H a (exH (.ref C) (some d) a)) := Same.new (Same.refl H) na
  have r' := r.same sm
  have ga : ¬ G.av w a := fun z => by
    obtain ⟨o, e, _⟩ := r.live a z
    rw [na] at e; cases e
  refine ⟨by rw [convE, List.length_map]; exact r.len, fun i p x hp hx => ?_, r'.stk, r'.own, r'.frame, r'.avs, fun v j m => ?_⟩
  · obtain ⟨q, hq, rfl⟩ := convE_at hp
    obtain ⟨v, e, z⟩ := r'.slot i q x hq hx
    refine ⟨v, e, ?_⟩
    cases q with
    | cx a' d' C' fs =>
      obtain ⟨rfl, rfl, rfl⟩ := ok.at hq
      obtain ⟨rfl, nd, fv, h1, h2, h3⟩ := z
      exact .exc ga nd upd_same h1 h2 h3
    | _ => exact z
  · obtain ⟨t, h⟩ := r'.als v j m
    exact ⟨t, h.imp (fun h => at_conv h) fun h => h.imp (fun h => at_conv h) fun h => at_conv h⟩
def kBehind (a d C : Addr) (i : Nat) (N : Env → Prop) (ρ : Env) : Prop := cxOk a d C ρ ∧ N ((convE ρ).set i none)
def kBehindR (a d C : Addr) (N : PV → Env → Prop) (p : PV) (ρ : Env) : Prop := cxOk a d C ρ ∧ (∀ a d C fs, p ≠ .cx a d C fs) ∧ N p (convE ρ)
def suiteL (a d C : Addr) (i : Nat) (L : LEnds) : LEnds := { nx := kBehind a d C i L.nx, rt := kBehindR a d C L.rt, bk := fun _ => False, ct := fun _ => False }
def kCatch (K : PySem.W.Frag) (Ct : Addr) (i : Nat) (ls : Addr → Addr → LS) (Xo : XP) (L : LEnds) (C : Addr) (fs : List (Str × T)) (ρ : Env) : Prop :=
  (C = Ct ∧ ∀ a d, ls a d (suiteL a d Ct i L) (ρ.set i (some (.cx a d Ct fs)))) ∨ (PySem.W.exmOne K (.ref C) (.ref Ct) = some false ∧ Xo C fs ρ)
def lTry (K : PySem.W.Frag) (Ct : Addr) (i : Nat) (lb : XP → LS) (ls : Addr → Addr → LS) (Xo : XP) : LS := fun L ρ => lb (kCatch K Ct i ls Xo L) L ρ
theorem sn_try {Ct : Addr} {i : Nat} {tb : WX → TS} {lb : XP → LS} {ts : Addr → Value → Option Addr → TS} {ls : Addr → Addr → LS} {Wo : WX} {Xo : XP} (te : PySem.W.exmOne K (.ref Ct) (.ref Ct) = some true) (hx : XOk G Wo Xo)
    (hb : ∀ W X, XOk G W X → SndS G [] (tb W) (lb X)) (hsu : ∀ a d, SndS G [] (ts a (.ref Ct) (some d)) (ls a d)) : SndS G [] (fun D σ H => tb (wKp K (.ref Ct) i ts Wo D) D σ H) (lTry K Ct i lb ls Xo) := by
  intro D L ρ σ H n r e q
  refine hb _ _ (fun C fs ρ' σ' d H' rx h => ?_) D L ρ σ H n r e q
  rcases h with ⟨rfl, h⟩ | ⟨ex, h⟩
  · refine ⟨true, te, fun _ a na => ?_, (fun z => by cases z)⟩
    have R1 := (rx.name a).store i (NoAl.nil.at i) (fun j z => by cases z)
    have ent : ∀ {ρ2 : Env} {σ2 : St} {H2 : Hp}, R G ρ2 σ2 [] H2 → H2 a = none → cxOk a d C ρ2 → R G ((convE ρ2).set i none) (σ2.set i none) [] (upd H2 a (exH (.ref C) (some d) a)) := fun r2 n2 ok => by
      obtain ⟨w2, r2⟩ := r2
      exact R.forget ⟨w2, r2.conv n2 ok (fun _ _ _ _ _ m => by cases m)⟩ i none (NoAl.nil.at i)
    refine hsu a d _ (suiteL a d C i L) _ _ _ NoAl.nil R1 ⟨fun ρ2 σ2 H2 r2 z n2 => e.nx _ _ _ (ent r2 n2 z.1) z.2, fun _ _ _ _ z => z.elim, fun _ _ _ _ z => z.elim, fun p ρ2 σ2 v H2 r2 z n2 => ?_⟩ (h a d)
    obtain ⟨ok, np, z⟩ := z
    obtain ⟨w2, r2⟩ := r2
    exact e.rt _ _ _ _ _ ⟨w2, r2.conv n2 ok (fun _ a d C fs m => (List.mem_cons.mp m).elim (fun y => np a d C fs (by cases y; rfl)) fun y => by cases y)⟩ z
  · exact ⟨false, ex, (fun z => by cases z), fun _ => hx C fs ρ' σ' d H' rx h⟩
/-! ### e.f in the suite, behind it -/
def lXf (a d C : Addr) (f : Str) (la : LE) : LE := fun ρ Q => la ρ fun p ρ1 => ∃ fs t, p = .cx a d C fs ∧ fs.lookup f = some t ∧ Q (.sh t) ρ1
theorem sn_xf {a d C : Addr} {f : Str} {ta : TE} {la : LE} (h : Snd G ta la) : Snd G (tXf a (.ref C) (some d) C f ta) (lXf a d C f la) := by
  intro ρ σ S H Q P R0 q k
  refine h ρ σ S H _ _ R0 q fun p ρ1 x H1 h1 R1 => ?_
  obtain ⟨fs, t, rfl, l, h1⟩ := h1
  obtain ⟨w, R1⟩ := R1
  obtain ⟨rfl, nd, fv, hd, hf, dd⟩ := R1.top
  obtain ⟨v, hv, dv⟩ := lookup_dns hf dd l
  exact ⟨rfl, rfl, d, fv, v, rfl, hd, hv, k _ _ _ _ h1 (R1.pop.res (Nw.here dv))⟩
theorem Rk.exc {av : Addr → Prop} {H : Hp} {x : V} {C : Addr} {fs : List (Str × T)} (h : Rk av H x (.exc C fs)) : ∃ (a d : Addr) (fv : List (Str × V)), x = .ref a ∧ H a = some (exH (.ref C) (some d) a) ∧ H d = some (.xd fv) ∧ fv.map Prod.fst = fs.map Prod.fst ∧ Dns av H (fv.map Prod.snd) (fs.map Prod.snd) := by
  rcases h with h | ⟨a, _, rfl, h⟩
  · cases h with | exc n m e e2 k d => exact ⟨_, _, _, rfl, e, e2, k, d⟩
  · exact h.elim
def lXk (K : PySem.W.Frag) (f : Str) (la : LE) : LE := fun ρ Q => la ρ fun p ρ1 => ∃ C fs t, val ρ1 p = some (.exc C fs) ∧ XfC K C ∧ PySem.W.findIn K (.ref C) f = some none ∧ fs.lookup f = some t ∧ Q (.sh t) ρ1
theorem sn_xk {f : Str} {ta : TE} {la : LE} (h : Snd G ta la) : Snd G (tXk K f ta) (lXk K f la) := by
  intro ρ σ S H Q P R0 q k
  refine h ρ σ S H _ _ R0 q fun p ρ1 x H1 h1 R1 => ?_
  obtain ⟨C, fs, t, e, xf, no, l, h1⟩ := h1
  obtain ⟨w, R1⟩ := R1
  obtain ⟨a, d, fv, rfl, ha, hd, hf, dd⟩ := (R1.rk R1.top e).exc
  obtain ⟨v, hv, dv⟩ := lookup_dns hf dd l
  exact ⟨a, C, d, fv, v, rfl, ha, hd, xf, no, hv, k _ _ _ _ h1 (R1.pop.res (Nw.here dv))⟩
/-! ### isinstance -/
def vIsX (K : PySem.W.Frag) (ts : List T) (P : PV → Prop) : Prop := ∃ C fs c u b, ts = [.exc C fs, c] ∧ clsT c = some u ∧ ExcC K C ∧ PySem.W.kitOne K (.ref C) u = some b ∧ P (.sh (.bl b))
def vIsA (K : PySem.W.Frag) (ts : List T) (P : PV → Prop) : Prop := vIsi K ts P ∨ vIsX K ts P
theorem cls_isA : CallS (fun xs H Q => rIsi K xs H Q ∨ rIsX K xs H Q) (vIsA K) := by
  rintro av H xs ts Q P lv hx h k
  rcases h with h | ⟨C, fs, c, u, b, rfl, e2, ec, e3, q⟩
  · exact .inl (cls_isi av H xs ts Q P lv hx h k)
  · obtain ⟨x, y, rfl, hx1, hy⟩ := hx.two
    obtain ⟨a, d, fv, rfl, ha, hd, _, _⟩ := hx1.exc
    exact .inr ⟨a, C, d, fv, y, u, b, rfl, ha, hd, clsv_of hy e2, ec, e3, k _ _ _ q (Nw.here (.bl _))⟩
def clsTs : List T → Option (List Value)
  | [] => some []
  | t :: ts => match clsT t, clsTs ts with
    | some v, some vs => some (v :: vs)
    | _, _ => none
theorem clsvs_of {av : Addr → Prop} {H : Hp} : ∀ {vs : List V} {ts : List T} {us : List Value}, Dns av H vs ts → clsTs ts = some us → Paired ClsV vs us
  | _, _, _, .nil, e => by cases e; exact .nil
  | _, _, us, .cons (t := t) (ts := ts) d ds, e => by
    unfold clsTs at e
    cases h1 : clsT t with
    | none => rw [h1] at e; cases e
    | some v =>
      cases h2 : clsTs ts with
      | none => rw [h1, h2] at e; cases e
      | some vs =>
        rw [h1, h2] at e
        cases e
        exact .cons (clsv_of (.inl d) h1) (clsvs_of ds h2)
def vIsXT (K : PySem.W.Frag) (ts : List T) (P : PV → Prop) : Prop := ∃ C fs cs us b, ts = [.exc C fs, .tup cs] ∧ clsTs cs = some us ∧ ExcC K C ∧ PySem.W.kitAny K (.ref C) us = some b ∧ P (.sh (.bl b))
theorem cls_isXT : CallS (fun xs H Q => rIsiT K xs H Q ∨ rIsXT K xs H Q) (vIsXT K) := by
  rintro av H xs ts Q P lv hx ⟨C, fs, cs, us, b, rfl, e2, ec, e3, q⟩ k
  obtain ⟨x, y, rfl, hx1, hy⟩ := hx.two
  obtain ⟨a, d, fv, rfl, ha, hd, _, _⟩ := hx1.exc
  obtain ⟨tp, vs, rfl, ht, dv⟩ := hy.tup
  exact .inr ⟨a, C, d, tp, fv, vs, us, b, rfl, ha, hd, ht, clsvs_of dv e2, ec, e3, k _ _ _ q (Nw.here (.bl _))⟩
/-! ### a body that may raise -/
theorem spL_bodyX {io : Bool} {lsp : LSp} {t : TS} {ls : XP → LS} {N : List Str} {n : Nat} {vs : List V} {H : Hp} {Q : VK} {E : XK} (hs : ∀ G X, XOk G (fun cls d _ H => E cls d H) X → SndS G [] t (ls X)) (h : spL io lsp vs H Q E) (hN : N.length = n) (hn : vs.length ≤ n)
    (pf : ∀ ts q x, lsp ts q x → ls (fun C fs ρ => ∃ t', ioT io ρ = some t' ∧ x C fs t') (endsL io q) (startE n io ts)) : t { nx := fun _ H' => Q .non H', rt := Q } (L2.start N vs) H := by
  refine spL_bodyG h hN hn fun AV F ts q x ha hsp he => ⟨_, hs _ (fun C fs ρ => ∃ t', ioT io ρ = some t' ∧ x C fs t') (fun C fs ρ σ d H' rx h => ?_), pf ts q x hsp⟩
  obtain ⟨t', e1, h⟩ := h
  obtain ⟨w, r⟩ := rx
  obtain ⟨_, nd, fv, hd, hf, dd⟩ := r.top
  have ior : io = true → Own (Gh.av (ghOf H AV F vs) w) H' (ghOf H AV F vs).ia t' F ∧ ∀ b ∈ F, w b = some (.sl 0) := fun hio => by
    subst hio
    simp only [ioT] at e1
    split at e1
    · next t2 e2 =>
      cases e1
      exact R.io_at r.pop e2
    · cases e1
  have av1 : ∀ b, avF AV F b → Gh.av (ghOf H AV F vs) w b := fun b z => by
    rcases z with z | m
    · exact .inl z
    · cases io with
      | false => rw [show F = [] from ha.1] at m; cases m
      | true => exact .inr ⟨_, (ior rfl).2 b m⟩
  refine he C fs t' d H' h (fun b o n e => r.frame b o n e) ⟨fv, fun z => nd (av1 d z), hd, hf, dd.up fun b z => .inl (av1 b z), fun hio a vs' e => ?_⟩
  subst e
  exact (ior hio).1.up fun b z => .inl (av1 b z)
end
/-! ### steps -/
section
variable {ρ ρ2 : Env} {Q : PV → Env → Prop} {p : PV} {t u : T} {ts us : List T} {L : LEnds} {la lo : LE} {l : LA} {X : XP} {lsp : LSp} {K : PySem.W.Frag} {C : Addr} {fs : List (Str × T)} {P : PV → Prop}
def kCall0X (X : XP) (lsp : LSp) (ps : List PV) (ρ1 : Env) (Q : PV → Env → Prop) : Prop := ∃ ts ρ2, frzs ρ1 ps = some (ts, ρ2) ∧ lsp ts (fun p _ => Q p ρ2) (fun C fs _ => X C fs ρ2)
theorem w_call0X (h : l ρ fun ps ρ1 => kCall0X X lsp ps ρ1 Q) : lCall0X X lsp l ρ Q := h
theorem w_kcall0X {ps : List PV} (e : frzs ρ ps = some (ts, ρ2)) (h : lsp ts (fun p _ => Q p ρ2) (fun C fs _ => X C fs ρ2)) : kCall0X X lsp ps ρ Q := ⟨ts, ρ2, e, h⟩
theorem w_call1X (h : l ρ fun ps ρ1 => kHd ps fun i ps' => call1X X lsp i ps' ρ1 Q) : lCall1X X lsp l ρ Q := h
theorem w_kcall1X {i : Nat} {ps : List PV} {m : T → PV} (e : frzs ρ ps = some (ts, ρ2)) (e2 : ownAt (ρ2[i]?) = some (t, m)) (h : lsp (t :: ts) (fun p t' => kSetE (ρ2.set i (some (m t'))) fun ρ3 => Q p ρ3) (fun C fs t' => kSetE (ρ2.set i (some (m t'))) fun ρ3 => X C fs ρ3)) : call1X X lsp i ps ρ Q := ⟨ts, ρ2, t, m, e, e2, h⟩
def kMeth1X (X : XP) (C : Addr) (m : Str) (lsp : LSp) (l : LA) (p : PV) (ρ1 : Env) (Q : PV → Env → Prop) : Prop := ∃ i t md, p = .al i ∧ ownAt (ρ1[i]?) = some (t, md) ∧ OpqIns C m t ∧ l ρ1 fun ps ρ2 => call1X X lsp i ps ρ2 Q
theorem w_meth1X {m : Str} (h : la ρ fun p ρ1 => kMeth1X X C m lsp l p ρ1 Q) : lMeth1X X C m lsp la l ρ Q := h
theorem w_kmeth1X {m : Str} {i : Nat} {md : T → PV} (e : ownAt (ρ[i]?) = some (t, md)) (o : OpqIns C m t) (h : l ρ fun ps ρ2 => call1X X lsp i ps ρ2 Q) : kMeth1X X C m lsp l (.al i) ρ Q := ⟨i, t, md, rfl, e, o, h⟩
def kMethTX (X : XP) (C : Addr) (m : Str) (lsp : LSp) (l : LA) (p : PV) (ρ1 : Env) (Q : PV → Env → Prop) : Prop := ∃ u, p = .ow u ∧ OpqIns C m u ∧ l ρ1 fun ps ρ2 => ∃ ts ρ3, frzs ρ2 ps = some (ts, ρ3) ∧ lsp (u :: ts) (fun p _ => Q p ρ3) (fun C fs _ => X C fs ρ3)
def kCallTX (X : XP) (lsp : LSp) (u : T) (ps : List PV) (ρ2 : Env) (Q : PV → Env → Prop) : Prop := ∃ ts ρ3, frzs ρ2 ps = some (ts, ρ3) ∧ lsp (u :: ts) (fun p _ => Q p ρ3) (fun C fs _ => X C fs ρ3)
theorem w_methTX {m : Str} (h : la ρ fun p ρ1 => kMethTX X C m lsp l p ρ1 Q) : lMethTX X C m lsp la l ρ Q := h
theorem w_kmethTX {m : Str} (o : OpqIns C m u) (h : l ρ fun ps ρ2 => kCallTX X lsp u ps ρ2 Q) : kMethTX X C m lsp l (.ow u) ρ Q := ⟨u, rfl, o, h⟩
theorem w_kcallTX {ps : List PV} (e : frzs ρ ps = some (ts, ρ2)) (h : lsp (u :: ts) (fun p _ => Q p ρ2) (fun C fs _ => X C fs ρ2)) : kCallTX X lsp u ps ρ Q := ⟨ts, ρ2, e, h⟩
def kRaise (X : XP) (C : Addr) (ns : List Str) (ps : List PV) (ρ1 : Env) : Prop := ∃ ts ws, vals ρ1 ps = some ts ∧ lfVs ts = some ws ∧ ts.length = ns.length ∧ ts.length ≤ 1000 ∧ X C (ns.zip ts).reverse ρ1
theorem w_raise {ns : List Str} (h : l ρ fun ps ρ1 => kRaise X C ns ps ρ1) : lRaise X C ns l L ρ := h
theorem w_kraise {ns : List Str} {ps : List PV} {ws : List V} (e : vals ρ ps = some ts) (e2 : lfVs ts = some ws) (l1 : ts.length = ns.length) (l2 : ts.length ≤ 1000) (e3 : (ns.zip ts).reverse = fs) (h : X C fs ρ) : kRaise X C ns ps ρ := ⟨ts, ws, e, e2, l1, l2, by rw [e3]; exact h⟩
theorem w_try {i : Nat} {lb : XP → LS} {ls : Addr → Addr → LS} {Xo : XP} (h : lb (kCatch K C i ls Xo L) L ρ) : lTry K C i lb ls Xo L ρ := h
theorem w_caught {i : Nat} {ls : Addr → Addr → LS} {Xo : XP} (h : ∀ a d, ls a d (suiteL a d C i L) (ρ.set i (some (.cx a d C fs)))) : kCatch K C i ls Xo L C fs ρ := .inl ⟨rfl, h⟩
theorem w_snx {a d : Addr} {i : Nat} (h : kBehind a d C i L.nx ρ) : (suiteL a d C i L).nx ρ := h
theorem w_srt {a d : Addr} {i : Nat} (h : kBehindR a d C L.rt p ρ) : (suiteL a d C i L).rt p ρ := h
theorem w_behind {a d : Addr} {i : Nat} {N : Env → Prop} (ok : cxOk a d C ρ) (e : (convE ρ).set i none = ρ2) (h : N ρ2) : kBehind a d C i N ρ := ⟨ok, by rw [e]; exact h⟩
theorem w_behindR {a d : Addr} {N : PV → Env → Prop} (ok : cxOk a d C ρ) (np : ∀ a d C fs, p ≠ .cx a d C fs) (e : convE ρ = ρ2) (h : N p ρ2) : kBehindR a d C N p ρ := ⟨ok, np, by rw [e]; exact h⟩
def kXf (a d C : Addr) (f : Str) (p : PV) (ρ1 : Env) (Q : PV → Env → Prop) : Prop := ∃ fs t, p = .cx a d C fs ∧ fs.lookup f = some t ∧ Q (.sh t) ρ1
theorem w_xf {a d : Addr} {f : Str} (h : la ρ fun p ρ1 => kXf a d C f p ρ1 Q) : lXf a d C f la ρ Q := h
theorem w_kxf {a d : Addr} {f : Str} (e : fs.lookup f = some t) (h : Q (.sh t) ρ) : kXf a d C f (.cx a d C fs) ρ Q := ⟨fs, t, rfl, e, h⟩
def kXk (K : PySem.W.Frag) (f : Str) (p : PV) (ρ1 : Env) (Q : PV → Env → Prop) : Prop := ∃ C fs t, val ρ1 p = some (.exc C fs) ∧ XfC K C ∧ PySem.W.findIn K (.ref C) f = some none ∧ fs.lookup f = some t ∧ Q (.sh t) ρ1
theorem w_xk {f : Str} (h : la ρ fun p ρ1 => kXk K f p ρ1 Q) : lXk K f la ρ Q := h
theorem w_kxk {f : Str} (e : val ρ p = some (.exc C fs)) (xf : XfC K C) (no : PySem.W.findIn K (.ref C) f = some none) (e2 : fs.lookup f = some t) (h : Q (.sh t) ρ) : kXk K f p ρ Q := ⟨C, fs, t, e, xf, no, e2, h⟩
theorem v_isX {c : T} {v : Value} {b : Bool} (e2 : clsT c = some v) (ec : ExcC K C) (e3 : PySem.W.kitOne K (.ref C) v = some b) (h : P (.sh (.bl b))) : vIsA K [.exc C fs, c] P := .inr ⟨C, fs, c, v, b, rfl, e2, ec, e3, h⟩
theorem v_isN2 {c : T} {v : Value} {b : Bool} (e2 : clsT c = some v) (e3 : PySem.W.kitOne K (.type "NoneType") v = some b) (h : P (.sh (.bl b))) : vIsA K [.non, c] P := .inl ⟨.non, c, "NoneType", v, b, rfl, rfl, e2, e3, h⟩
theorem v_isXT {cs : List T} {vs : List Value} {b : Bool} (e2 : clsTs cs = some vs) (ec : ExcC K C) (e3 : PySem.W.kitAny K (.ref C) vs = some b) (h : P (.sh (.bl b))) : vIsXT K [.exc C fs, .tup cs] P := ⟨C, fs, cs, vs, b, rfl, e2, ec, e3, h⟩
end
end LP
end
section
set_option maxRecDepth 100000
set_option maxHeartbeats 4000000
namespace LH
open PySem PySem.Spec PyProof.Rows L2
/-! ### i in range(a, b) -/
def rInRg (neg : Bool) : V → V → Hp → VK → Prop := fun x y H Q => ∃ i a lo hi, x = V.int i ∧ y = V.ref a ∧ H a = some (.rng lo hi) ∧ Q (.bl (if neg then !decide (lo ≤ i ∧ i < hi) else decide (lo ≤ i ∧ i < hi))) H
section
variable {X : Cx}
theorem op_inRg : OpR X (compareOp .In) (rInRg false) := op_in_rng
theorem op_notInRg : OpR X (compareOp .NotIn) (rInRg true) := by
  intro pins s σ H x y v u Q I rx ry ⟨i, a, lo, hi, ex, ey, ha, q⟩
  subst ex ey
  obtain ⟨k, ek⟩ := rx
  obtain rfl : u = Value.ref a := ry
  subst ek
  obtain ⟨t1, t2, t3, ho⟩ := I.hok a _ ha
  show wpAny _ _ (do return Value.bool (!(← contains (Value.ref a) (Value.int i k)))) _ _ s
  refine wpAny_bind (wpAny_contains_slot (T := "range") ⟨_, ho, rfl⟩ F.slot_range_contains (call_meets F.slot_range_contains ⟨_, ho, rfl⟩ F.entry_range_contains (F.args_range_contains_2 _ _) (q_contains a lo hi i t1 t2 t3 k)
    ⟨ho, wpAny_truthy_bool (wpAny_pure ⟨.bl _, H, I, rfl, (by rw [place1]; exact q)⟩)⟩))
end
abbrev rRng : List V → Hp → VK → Prop := fun vs H Q => ∃ i j, vs = [V.int i, V.int j] ∧ ∀ p, H p = none → Q (.ref p) (upd H p (.rng i j))
end LH
namespace LP
open PySem L2 LH
section
variable {G : Gh} {tx : TE} {lx : LE} {t : TA} {l : LA} {neg : Bool}
def lInRg (neg : Bool) (lx : LE) (l : LA) : LE := fun ρ Q => lx ρ fun p ρ1 => l ρ1 fun ps ρ2 => ∃ i lo hi, val ρ2 p = some (.int i) ∧ vals ρ2 ps = some [.int lo, .int hi] ∧ Q (.sh (.bl (if neg then !decide (lo ≤ i ∧ i < hi) else decide (lo ≤ i ∧ i < hi)))) ρ2
theorem sn_inRg (hx : Snd G tx lx) (ha : SndA G t l) : Snd G (tOp (rInRg neg) tx (tCB rRng t)) (lInRg neg lx l) := by
  intro ρ σ S H Q P R0 h k
  refine hx ρ σ S H _ _ R0 h fun p ρ1 x H1 h1 R1 => ?_
  refine ha ρ1 σ _ H1 _ _ R1 h1 fun ps ρ2 vs H2 h2 hl R2 => ?_
  obtain ⟨i, lo, hi, e1, e2, h2⟩ := h2
  obtain ⟨w, R2⟩ := R2
  have rs := R2.rks hl e2
  obtain rfl := rs.ints2
  obtain rfl := (R2.unpsh.rk R2.unpsh.top e1).int
  exact ⟨lo, hi, rfl, fun q hq => ⟨i, q, lo, hi, rfl, rfl, upd_same, k _ _ _ _ h2 ⟨w, (R2.unpsh.pop.same (Same.new (Same.refl H2) hq)).push (p := .sh (.bl _)) (.bl _)⟩⟩⟩
def kInRg (neg : Bool) (p : PV) (ps : List PV) (ρ2 : Env) (Q : PV → Env → Prop) : Prop := ∃ i lo hi, val ρ2 p = some (.int i) ∧ vals ρ2 ps = some [.int lo, .int hi] ∧ Q (.sh (.bl (if neg then !decide (lo ≤ i ∧ i < hi) else decide (lo ≤ i ∧ i < hi)))) ρ2
theorem w_inRg {ρ : Env} {Q : PV → Env → Prop} (h : lx ρ fun p ρ1 => l ρ1 fun ps ρ2 => kInRg neg p ps ρ2 Q) : lInRg neg lx l ρ Q := h
theorem w_kinRgN {ρ : Env} {Q : PV → Env → Prop} {p : PV} {ps : List PV} {i lo hi : Int} (e1 : val ρ p = some (.int i)) (e2 : vals ρ ps = some [.int lo, .int hi]) (h : Q (.sh (.bl (!decide (lo ≤ i ∧ i < hi)))) ρ) : kInRg true p ps ρ Q := ⟨i, lo, hi, e1, e2, h⟩
theorem w_kinRg {ρ : Env} {Q : PV → Env → Prop} {p : PV} {ps : List PV} {i lo hi : Int} (e1 : val ρ p = some (.int i)) (e2 : vals ρ ps = some [.int lo, .int hi]) (h : Q (.sh (.bl (decide (lo ≤ i ∧ i < hi)))) ρ) : kInRg false p ps ρ Q := ⟨i, lo, hi, e1, e2, h⟩
end
/-! ### small letters -/
theorem ops_notInS : OpS (fun x y H Q => ∃ i j, x = V.str i ∧ y = V.str j ∧ Q (V.bl (!(!(PySem.Builtin.Str.occurrences j i 0 j.length 1).isEmpty))) H) (vInS true) := by
  rintro av H x y s t Q P lv hx hy ⟨i, j, rfl, rfl, q⟩ k
  exact ⟨i, j, hx.str, hy.str, by rw [Bool.not_not]; exact k _ _ _ q (Nw.here (.bl _))⟩
def lettersS : Str := "abcdefghijklmnopqrstuvwxyz"
def lowB (c : Nat) : Bool := decide (97 ≤ c ∧ c ≤ 122)
theorem occ_letter : ∀ c : Fin 128, (PySem.Builtin.Str.occurrences lettersS ⟨#[c.val]⟩ 0 lettersS.length 1).isEmpty = !lowB c.val := by decide +kernel
theorem v_inLet {c : Nat} {P : PV → Prop} (h : c ≤ 127) (q : P (.sh (.bl (lowB c)))) : vInS false (.str ⟨#[c]⟩) (.str lettersS) P := by
  refine ⟨_, _, rfl, rfl, ?_⟩
  rw [occ_letter ⟨c, by omega⟩, Bool.not_not]
  exact q
theorem v_notInLet {c : Nat} {P : PV → Prop} (h : c ≤ 127) (q : P (.sh (.bl (!lowB c)))) : vInS true (.str ⟨#[c]⟩) (.str lettersS) P := by
  refine ⟨_, _, rfl, rfl, ?_⟩
  rw [occ_letter ⟨c, by omega⟩]
  exact q
def isNameB (z : Str) : Bool := decide (1 ≤ z.length ∧ z.length ≤ 8) && z.cps.toList.all lowB
def isNameT : T → Bool
  | .str z => isNameB z
  | _ => false
theorem isName_no {t : T} (h : isStrT t = false) : isNameT t = false := by cases t <;> first | rfl | cases h
theorem isName_of {t : T} (h : isNameT t = true) : ∃ z, t = .str z ∧ isNameB z = true := by cases t <;> first | exact ⟨_, rfl, h⟩ | cases h
theorem Nm.isName {z : Str} (h : Nm z) : isNameB z = true := by
  obtain ⟨h1, h2, h3⟩ := h
  unfold isNameB
  rw [Bool.and_eq_true]
  refine ⟨by simp; omega, ?_⟩
  rw [List.all_eq_true]
  intro c hc
  have := h3 c hc
  unfold lowB
  simp; omega
theorem El.sn {z : Str} (h : El (.str z)) : Sn z := by cases h with | str h => exact h
theorem Th.sn {z : Str} (h : Th (.str z)) : Sn z := by cases h with | el h => exact h.sn
def Asc (m : Nat) (z : Str) : Prop := z.length ≤ m ∧ ∀ c ∈ z.cps.toList, c ≤ 127
def Tk (t : T) : Prop := t.kn ∧ ∀ z, t = .str z → Asc 1000000 z
theorem Th.tk {t : T} (h : Th t) : Tk t := ⟨h.kn, fun z e => by
  subst e
  have := h.sn
  exact ⟨Nat.le_trans this.1 (by decide), this.2⟩⟩
def lIsName : LSp := fun ts q _ => ∃ t, ts = [t] ∧ Tk t ∧ q (.sh (.bl (isNameT t))) .non
/-! ### a step -/
def doorOf (S : SData) (z : Str) : Option Door := S.doors.find? fun d => decide (d.name = z)
inductive Got where
  | told (h : Int) (g : Str) (p : Int)
  | why (w : Str)
def goneAt (D : TData) (h : Int) (r z : Str) : Got := match doorOf (D.at' h) z with
  | none => .why "door"
  | some d => if d.room = r then (if d.goal ∈ (D.at' (h + d.move)).rooms then .told (h + d.move) d.goal d.price else .why "goal") else .why "room"
def goneOf (D : TData) (h : Int) (r : Str) : T → Got
  | .str z => if isNameB z = true then goneAt D h r z else .why "form"
  | _ => .why "form"
theorem gone_form {D : TData} {h : Int} {r : Str} {t : T} (e : isNameT t = false) : goneOf D h r t = .why "form" := by
  cases t <;> first | rfl | skip
  rename_i z
  show (if isNameB z = true then _ else _) = _
  rw [if_neg (by rw [show isNameB z = false from e]; decide)]
theorem gone_name {D : TData} {h : Int} {r z : Str} (e : isNameB z = true) : goneOf D h r (.str z) = goneAt D h r z := if_pos e
theorem valT_map {κ α : Type} [DecidableEq κ] {f : α → κ} {g : α → T} {k : κ} : ∀ xs : List α, valT (xs.map fun d => (f d, g d)) k = (xs.find? fun d => decide (f d = k)).map g
  | [] => rfl
  | x :: xs => by
    rw [List.map_cons, valT_cons, List.find?_cons]
    by_cases c : f x = k
    · rw [if_pos c, decide_eq_true c]; rfl
    · rw [if_neg c, decide_eq_false c]; exact valT_map xs
theorem table_get (S : SData) (z : Str) : dgetT (.dic (S.doors.map fun d => ((Sum.inr d.name : Key), doorT d))) (.str z) = some ((doorOf S z).map doorT) := by
  show some (valT _ (Sum.inr z)) = _
  rw [valT_map (f := fun d : Door => (Sum.inr d.name : Key)) (g := doorT)]
  unfold doorOf
  have e : (fun d : Door => decide ((Sum.inr d.name : Key) = Sum.inr z)) = fun d => decide (d.name = z) := by
    funext d
    by_cases c : d.name = z
    · rw [decide_eq_true c, decide_eq_true (by rw [c])]
    · rw [decide_eq_false c, decide_eq_false (fun y => c (Sum.inr.inj y))]
  rw [e]
def toldT (h : Int) (g : Str) (p : Int) : T := .tup [.tup [.int h, .str g], .int p]
def lGone (CS CT CP CN : Addr) : LSp := fun ts q x => ∃ D h r t, ts = [planT CS CT CP D, .tup [.int h, .str r], t] ∧ TOk D ∧ Th t ∧ (∀ h' g p, goneOf D h r t = .told h' g p → q (.sh (toldT h' g p)) (planT CS CT CP D)) ∧ ∀ w, goneOf D h r t = .why w → x CN [("why", .str w)] (planT CS CT CP D)
def lDone (CS CT CN : Addr) : LSp := fun ts q x => ∃ D h r t, ts = [streetO CS CT D, .tup [.int h, .str r], t] ∧ TOk D ∧ Th t ∧ (∀ h' g p, goneOf D h r t = .told h' g p → q (.sh (toldT h' g p)) .non) ∧ ∀ w, goneOf D h r t = .why w → x CN [("why", .str w)] .non
def gotT : Got → T
  | .told h g p => .tup [.str "told", toldT h g p]
  | .why w => .tup [.str "refused", .str w]
def lLawDue : LSp := fun ts q _ => ∃ D h r t, ts = [streetT D, .tup [.int h, .str r], t] ∧ TOk D ∧ Th t ∧ q (.sh (gotT (goneOf D h r t))) .non
def lLawGot (CS CT : Addr) : LSp := fun ts q _ => ∃ D h r t, ts = [streetO CS CT D, .tup [.int h, .str r], t] ∧ TOk D ∧ Th t ∧ q (.sh (gotT (goneOf D h r t))) .non
def _root_.LH.spCopied : Sp := fun vs H Q _ => ∃ x, vs = [x] ∧ leafV x = true ∧ Q x H
theorem w_itNn {A B : Prop} (q : A) : if (!(none : Option T).isSome) = true then A else B := q
theorem w_itNs {t : T} {A B : Prop} (q : B) : if (!(some t).isSome) = true then A else B := q
theorem w_itn {A B : Prop} (q : B) : if (none : Option T).isSome = true then A else B := q
theorem w_its {t : T} {A B : Prop} (q : A) : if (some t).isSome = true then A else B := q
theorem gone_cases (D : TData) (h : Int) (r : Str) (t : T) : (∃ w : Str, goneOf D h r t = .why w ∧ (w = "form" ∨ w = "door" ∨ w = "room" ∨ w = "goal")) ∨
    ∃ d ∈ (D.at' h).doors, goneOf D h r t = .told (h + d.move) d.goal d.price ∧ d.goal ∈ (D.at' (h + d.move)).rooms ∧ d.room = r := by
  cases c : isNameT t with
  | false => exact .inl ⟨_, gone_form c, .inl rfl⟩
  | true =>
    obtain ⟨z, rfl, cz⟩ := isName_of c
    rw [gone_name cz]
    cases e : doorOf (D.at' h) z with
    | none => exact .inl ⟨"door", by simp [goneAt, e], .inr (.inl rfl)⟩
    | some d =>
      have hd : d ∈ (D.at' h).doors := List.mem_of_find?_eq_some e
      by_cases c1 : d.room = r
      · by_cases c2 : d.goal ∈ (D.at' (h + d.move)).rooms
        · exact .inr ⟨d, hd, by simp [goneAt, e, c1, c2], c2, c1⟩
        · exact .inl ⟨"goal", by simp [goneAt, e, c1, c2], .inr (.inr (.inr rfl))⟩
      · exact .inl ⟨"room", by simp [goneAt, e, c1], .inr (.inr (.inl rfl))⟩
theorem got_dtz {D : TData} {h : Int} {r : Str} {t : T} (ok : TOk D) (hh : h.natAbs < 10 ^ 13) : ∃ d, Dtz (gotT (goneOf D h r t)) d := by
  rcases gone_cases D h r t with ⟨w, e, key⟩ | ⟨d, hd, e, hg, _⟩
  · rw [e]
    have hw : Sn w := by rcases key with rfl | rfl | rfl | rfl <;> exact ⟨by decide, by decide⟩
    exact ⟨_, .inl ⟨.tup (.cons (.str _) (.cons (.str _) .nil)), (Shw.tuple (ShwA.cons (Shw.sn ⟨by decide, by decide⟩) (ShwA.cons (Shw.sn hw) .nil))).mono (by decide) (by decide)⟩⟩
  · rw [e]
    have ds := (TOk.at' ok h).dd d hd
    have s1 := shw_stand (h := h + d.move) (r := d.goal) (by have := ds.mv; omega) ds.gl
    have s2 := Shw.int (i := d.price) (j := 2) (by decide) (by decide) (by have := ds.pr; omega)
    exact ⟨_, .inl ⟨.tup (.cons (.str _) (.cons (.tup (.cons (dat_stand _ _) (.cons (.int _) .nil))) .nil)), (Shw.tuple (ShwA.cons ((Shw.sn ⟨by decide, by decide⟩ : Shw 1 122 (.str "told")).mono (by decide) (Nat.le_refl _)) (ShwA.cons (Shw.tuple (ShwA.cons s1 (ShwA.cons (s2.mono (by decide) (Nat.le_refl _)) .nil))) .nil))).mono (by decide) (by decide)⟩⟩
end LP
end
section
set_option maxRecDepth 100000
set_option maxHeartbeats 4000000
namespace LP
open PySem L2 LH
/-! ### texts: split, join, parts -/
def vSplit (s : T) (ts : List T) (P : PV → Prop) : Prop := ∃ a b, s = .str a ∧ ts = [.str b] ∧ (b.length == 0) = false ∧ a.length ≤ 10000000 ∧ P (.ow (.lst ((Txt.split a b).map T.str)))
section
variable {K : PySem.W.Frag}
theorem mts_split : MtS (fun x xs H Q => ∃ a b, x = .str a ∧ xs = [.str b] ∧ (b.length == 0) = false ∧ a.length + 2 ≤ sizeLine ∧ rNewStrs (Txt.split a b) H Q) vSplit := by
  rintro av H x s xs ts Q P lv hx hxs ⟨a, b, rfl, rfl, h0, l, q⟩ k
  obtain ⟨y, rfl, hy⟩ := hxs.one
  obtain rfl := hx.str
  obtain rfl := hy.str
  exact ⟨a, b, rfl, rfl, h0, by rw [sizeLine_eq]; omega, fun p hp => k _ _ _ q (Nw.lst hp (dns_strs _))⟩
def vJoinA (s : T) (ts : List T) (P : PV → Prop) : Prop := ∃ (a : Str) (t : T) (ys : List Str), s = .str a ∧ ts = [t] ∧ sqT t = some (ys.map T.str) ∧ (ys.map (·.length)).sum + ys.length * a.length ≤ 16777216 ∧ P (.sh (.str (Txt.join a ys)))
theorem mts_joinA : MtS (rJoin K) vJoinA := by
  rintro av H x s xs ts Q P lv hx hxs ⟨a, t, ys, rfl, rfl, e, l, q⟩ k
  obtain ⟨y, rfl, hy⟩ := hxs.one
  cases t with
  | lst us =>
    cases e
    obtain ⟨b, vs, rfl, e1, d⟩ := hy.lst
    obtain rfl := d.strs
    exact ⟨a, b, ys, hx.str, rfl, .inl (SqL.of e1), l, k _ _ _ q (Nw.here (.str _))⟩
  | tup us =>
    cases e
    obtain ⟨b, vs, rfl, e1, d⟩ := hy.tup
    obtain rfl := d.strs
    exact ⟨a, b, ys, hx.str, rfl, .inr (SqT.of e1), l, k _ _ _ q (Nw.here (.str _))⟩
  | _ => cases e
end
section
variable {P : PV → Prop}
theorem v_split {a b : Str} (h0 : (b.length == 0) = false) (l : a.length ≤ 10000000) (q : P (.ow (.lst ((Txt.split a b).map T.str)))) : vSplit (.str a) [.str b] P := ⟨a, b, rfl, rfl, h0, l, q⟩
theorem v_joinL {a : Str} {ys : List Str} (l : (ys.map (·.length)).sum + ys.length * a.length ≤ 16777216) (q : P (.sh (.str (Txt.join a ys)))) : vJoinA (.str a) [.lst (ys.map T.str)] P := ⟨a, _, ys, rfl, rfl, rfl, l, q⟩
theorem v_joinT {a : Str} {ys : List Str} (l : (ys.map (·.length)).sum + ys.length * a.length ≤ 16777216) (q : P (.sh (.str (Txt.join a ys)))) : vJoinA (.str a) [.tup (ys.map T.str)] P := ⟨a, _, ys, rfl, rfl, rfl, l, q⟩
end
/-! ### plain texts of at most so many signs -/
structure Pt (m : Nat) (z : Str) : Prop where
  len : z.length ≤ m
  asc : ∀ c ∈ z.cps.toList, c ≤ 127
abbrev sep : Str := ", "
theorem Pt.mono {m n : Nat} {z : Str} (h : Pt m z) (l : m ≤ n) : Pt n z := ⟨Nat.le_trans h.len l, h.asc⟩
theorem Nm.pt {z : Str} (h : Nm z) : Pt 8 z := ⟨h.2.1, fun c hc => by have := (h.2.2 c hc).2; omega⟩
theorem Pt.app {m n : Nat} {a b : Str} (h : Pt m a) (g : Pt n b) : Pt (m + n) (a ++ b) := by
  refine ⟨by rw [PySem.Str.length_append]; have := h.len; have := g.len; omega, fun c hc => ?_⟩
  have hc' : c ∈ TL.tl (a ++ b) := hc
  rw [TL.tl_append] at hc'
  exact (List.mem_append.mp hc').elim (h.asc c) (g.asc c)
theorem Pt.cut {m : Nat} {a : Str} (h : Pt m a) (lo hi : Option Int) : Pt m (cutS a lo hi) := by
  have e : (cutS a lo hi).cps.toList = (a.cps.toList.drop (HT.sIx a.length 0 lo)).take (HT.sIx a.length a.length hi - HT.sIx a.length 0 lo) := by simp [cutS]
  refine ⟨?_, fun c hc => ?_⟩
  · rw [TL.len_tl]
    show (cutS a lo hi).cps.toList.length ≤ m
    rw [e, List.length_take, List.length_drop]
    have := h.len
    rw [TL.len_tl] at this
    have t : a.cps.toList.length ≤ m := this
    omega
  · rw [e] at hc
    exact h.asc c (List.mem_of_mem_drop (List.mem_of_mem_take hc))
theorem Pt.one {c : Nat} (h : c ≤ 127) : Pt 1 ⟨#[c]⟩ := ⟨by show (#[c] : Array Nat).size ≤ 1; simp, fun d hd => by simp at hd; omega⟩
theorem joinL_mem {S : List Nat} : ∀ {ps : List (List Nat)} {c : Nat}, c ∈ TL.joinL S ps → c ∈ S ∨ ∃ p ∈ ps, c ∈ p
  | [], c, h => by cases h
  | [p], c, h => .inr ⟨p, List.mem_cons_self, h⟩
  | p :: q :: r, c, h => by
    have h' : c ∈ p ++ (S ++ TL.joinL S (q :: r)) := h
    rcases List.mem_append.mp h' with h | h
    · exact .inr ⟨p, List.mem_cons_self, h⟩
    · rcases List.mem_append.mp h with h | h
      · exact .inl h
      · rcases joinL_mem h with h | ⟨u, hu, hc⟩
        · exact .inl h
        · exact .inr ⟨u, List.mem_cons_of_mem _ hu, hc⟩
theorem joinL_len {S : List Nat} : ∀ (ps : List (List Nat)), (TL.joinL S ps).length ≤ (ps.map List.length).sum + ps.length * S.length
  | [] => Nat.zero_le _
  | [p] => by show p.length ≤ _; simp
  | p :: q :: r => by
    have ih := joinL_len (S := S) (q :: r)
    show (p ++ (S ++ TL.joinL S (q :: r))).length ≤ _
    rw [List.length_append, List.length_append]
    simp only [List.map_cons, List.sum_cons, List.length_cons] at ih ⊢
    rw [show (r.length + 1 + 1) * S.length = (r.length + 1) * S.length + S.length by rw [Nat.add_mul (r.length + 1), Nat.one_mul]]
    omega
theorem tl_joinT (y : Str) (ps : List Str) : (Txt.join y ps).cps.toList = TL.joinL y.cps.toList (ps.map TL.tl) := by
  rw [TL.join_eq]
  exact TL.tl_join y ps
theorem sum_lens (ps : List Str) : ((ps.map TL.tl).map List.length).sum = (ps.map (·.length)).sum := by
  rw [List.map_map]
  exact congrArg List.sum (List.map_congr_left fun z _ => (TL.len_tl z).symm)
/-- parts: so many in all -/
def wt (ps : List Str) : Nat := (ps.map (·.length)).sum + ps.length
theorem wt_app (ps qs : List Str) : wt (ps ++ qs) = wt ps + wt qs := by
  unfold wt
  rw [List.map_append, List.sum_append, List.length_append]
  omega
theorem wt_take : ∀ (n : Nat) (ps : List Str), wt (ps.take n) ≤ wt ps
  | 0, _ => Nat.zero_le _
  | _ + 1, [] => Nat.le_refl _
  | n + 1, p :: ps => by
    have := wt_take n ps
    unfold wt at this ⊢
    simp only [List.take_succ_cons, List.map_cons, List.sum_cons, List.length_cons]
    omega
theorem wt_drop : ∀ (n : Nat) (ps : List Str), wt (ps.drop n) ≤ wt ps
  | 0, _ => Nat.le_refl _
  | _ + 1, [] => Nat.le_refl _
  | n + 1, p :: ps => by
    have := wt_drop n ps
    unfold wt at this ⊢
    simp only [List.drop_succ_cons, List.map_cons, List.sum_cons, List.length_cons]
    omega
theorem wt_cut (ps : List Str) (lo hi : Option Int) : wt (cutT ps lo hi) ≤ wt ps := Nat.le_trans (wt_take _ _) (wt_drop _ _)
theorem cut_map {α β : Type} (f : α → β) (xs : List α) (lo hi : Option Int) : cutT (xs.map f) lo hi = (cutT xs lo hi).map f := by
  unfold cutT
  rw [List.length_map, List.map_take, List.map_drop]
theorem cut_mem {α : Type} {xs : List α} {lo hi : Option Int} {x : α} (h : x ∈ cutT xs lo hi) : x ∈ xs := List.mem_of_mem_drop (List.mem_of_mem_take h)
theorem len_wt (ps : List Str) : ps.length ≤ wt ps := by unfold wt; omega
theorem join_room {ps : List Str} {m : Nat} (h : wt ps ≤ m) : (ps.map (·.length)).sum + ps.length * sep.length ≤ 2 * m := by
  have : sep.length = 2 := by decide
  rw [this]
  unfold wt at h
  omega
theorem Pt.join {ps : List Str} {m : Nat} (h : wt ps ≤ m) (a : ∀ p ∈ ps, ∀ c ∈ p.cps.toList, c ≤ 127) : Pt (2 * m) (Txt.join sep ps) := by
  refine ⟨?_, fun c hc => ?_⟩
  · rw [TL.len_tl]
    show (Txt.join sep ps).cps.toList.length ≤ _
    rw [tl_joinT]
    refine Nat.le_trans (joinL_len _) ?_
    rw [sum_lens, List.length_map]
    exact join_room h
  · rw [tl_joinT] at hc
    rcases joinL_mem hc with h | ⟨p, hp, hc⟩
    · have : ∀ c ∈ sep.cps.toList, c ≤ 127 := by decide
      exact this c h
    · obtain ⟨z, hz, rfl⟩ := List.mem_map.mp hp
      exact a z hz c hc
theorem spl_mem {S : List Nat} : ∀ {l : List Nat} {k : Nat} {acc p : List Nat} {c : Nat}, p ∈ TL.spl S k acc l → c ∈ p → c ∈ acc ∨ c ∈ l
  | [], k, acc, p, c, h, hc => by
    rw [TL.spl_nil] at h
    rw [List.mem_singleton.mp h] at hc
    exact .inl hc
  | x :: r, 0, acc, p, c, h, hc => by
    unfold TL.spl at h
    split at h
    · rcases List.mem_cons.mp h with rfl | h
      · exact .inl hc
      · rcases spl_mem h hc with h | h
        · cases h
        · exact .inr (List.mem_cons_of_mem _ h)
    · rcases spl_mem h hc with h | h
      · rcases List.mem_append.mp h with h | h
        · exact .inl h
        · rw [List.mem_singleton.mp h]; exact .inr List.mem_cons_self
      · exact .inr (List.mem_cons_of_mem _ h)
  | x :: r, k + 1, acc, p, c, h, hc => by
    unfold TL.spl at h
    rcases spl_mem h hc with h | h
    · exact .inl h
    · exact .inr (List.mem_cons_of_mem _ h)
theorem split_asc {z : Str} (h : ∀ c ∈ z.cps.toList, c ≤ 127) : ∀ p ∈ Txt.split z sep, ∀ c ∈ p.cps.toList, c ≤ 127 := by
  intro p hp c hc
  have e := TL.split_spl z sep (by decide) (TL.kind_ok (by decide +kernel))
  have m : TL.tl p ∈ TL.spl (TL.tl sep) 0 [] (TL.tl z) := by rw [← e]; exact List.mem_map.mpr ⟨p, hp, rfl⟩
  rcases spl_mem m hc with h2 | h2
  · cases h2
  · exact h c h2
theorem split_wt {z : Str} {m : Nat} (h : z.length ≤ m) : wt (Txt.split z sep) ≤ m + 1 := by
  have := PyProof.Rows.split_weight z sep (by decide)
  unfold wt
  omega
theorem spl_some {S : List Nat} : ∀ (l : List Nat) (k : Nat) (acc : List Nat), TL.spl S k acc l ≠ []
  | [], k, acc => by rw [TL.spl_nil]; exact List.cons_ne_nil _ _
  | x :: r, 0, acc => by
    unfold TL.spl
    split
    · exact List.cons_ne_nil _ _
    · exact spl_some r 0 _
  | x :: r, k + 1, acc => by
    unfold TL.spl
    exact spl_some r k _
theorem split_one (z : Str) : 1 ≤ (Txt.split z sep).length := by
  refine List.length_pos_iff.mpr fun e => ?_
  have h := TL.split_spl z sep (by decide) (TL.kind_ok (by decide +kernel))
  rw [e] at h
  exact spl_some _ _ _ h.symm
theorem split_part {z : Str} {m : Nat} (h : Pt m z) : ∀ p ∈ Txt.split z sep, Pt m p := fun p hp => ⟨Nat.le_trans (PyProof.Rows.part_short hp) h.len, split_asc h.asc p hp⟩
theorem split_of {ps : List Str} (ne : ps ≠ []) (h : ∀ p ∈ ps, Nm p) : Txt.split (Txt.join sep ps) sep = ps := by
  refine TL.split_join (s := 44) (S := [32]) (by decide) (by decide +kernel) ne fun p hp m => ?_
  have := ((h p hp).2.2 44 m).1
  omega
end LP
namespace LP
open PySem L2 LH
/-! ### three at once -/
def lPar3 (la : LA) (i j l : Nat) : LS := fun L ρ => la ρ fun ps ρ1 => ∃ p q u p' ρ2 q' ρ3 u' ρ4, ps = [p, q, u] ∧ (∀ k, p ≠ .al k) ∧ (∀ k, q ≠ .al k) ∧ stv ρ1 u = some (u', ρ2) ∧ stv (ρ2.set l (some u')) q = some (q', ρ3) ∧ stv (ρ3.set j (some q')) p = some (p', ρ4) ∧ L.nx (ρ4.set i (some p'))
theorem sn_par3 {G : Gh} {S : Stk} {i j l : Nat} {t : TA} {la : LA} (ij : i ≠ j) (il : i ≠ l) (jl : j ≠ l) (h : SndA G t la) : SndS G S (tPar3 i j l t) (lPar3 la i j l) := by
  intro D L ρ σ H n r e q
  refine h ρ σ S H _ _ r q fun ps ρ1 vs H1 q1 hl R1 => ?_
  obtain ⟨p, q, u, p', ρ2, q', ρ3, u', ρ4, rfl, np, nq, e1, e2, e3, q1⟩ := q1
  match vs, hl with
  | [v, x, y], _ =>
    have R1' : R G ρ1 σ ((y, u) :: (x, q) :: (v, p) :: S) H1 := R1
    obtain ⟨R2, na⟩ := R1'.stv e1
    have n1 : NoAl ((v, p) :: S) := fun w k m => (List.mem_cons.mp m).elim (fun z => by cases z; exact np k rfl) (n w k)
    have n2 : NoAl ((x, q) :: (v, p) :: S) := fun w k m => (List.mem_cons.mp m).elim (fun z => by cases z; exact nq k rfl) (n1 w k)
    have R3 := R2.store l (n2.at l) na
    obtain ⟨R4, na2⟩ := R3.stv e2
    have R5 := R4.store j (n1.at j) na2
    obtain ⟨R6, na3⟩ := R5.stv e3
    have z := e.nx _ _ _ (R6.store i (n.at i) na3) q1
    refine ⟨v, x, y, rfl, ?_⟩
    rwa [List.set_comm _ _ (Ne.symm jl), List.set_comm _ _ (Ne.symm il), List.set_comm _ _ (Ne.symm ij)] at z
def kPar3 (ps : List PV) (i j l : Nat) (ρ1 : Env) (Q : Env → Prop) : Prop := ∃ p q u p' ρ2 q' ρ3 u' ρ4, ps = [p, q, u] ∧ (∀ k, p ≠ .al k) ∧ (∀ k, q ≠ .al k) ∧ stv ρ1 u = some (u', ρ2) ∧ stv (ρ2.set l (some u')) q = some (q', ρ3) ∧ stv (ρ3.set j (some q')) p = some (p', ρ4) ∧ Q (ρ4.set i (some p'))
section
variable {ρ ρ2 ρ3 ρ4 ρ5 : Env} {L : LEnds} {p q u p' q' u' : PV}
theorem w_par3 {la : LA} {i j l : Nat} (h : la ρ fun ps ρ1 => kPar3 ps i j l ρ1 L.nx) : lPar3 la i j l L ρ := h
theorem w_kpar3 {i j l : Nat} {Q : Env → Prop} (n1 : ∀ k, p ≠ .al k) (n2 : ∀ k, q ≠ .al k) (e1 : stv ρ u = some (u', ρ2)) (e2 : stv (ρ2.set l (some u')) q = some (q', ρ3)) (e3 : stv (ρ3.set j (some q')) p = some (p', ρ4)) (e4 : ρ4.set i (some p') = ρ5) (h : Q ρ5) : kPar3 [p, q, u] i j l ρ Q :=
  ⟨p, q, u, p', ρ2, q', ρ3, u', ρ4, rfl, n1, n2, e1, e2, e3, by rw [e4]; exact h⟩
end
/-! ### ways as texts -/
theorem Tk.str {z : Str} (h : Pt 1000000 z) : Tk (.str z) := ⟨(fun y => by cases y), fun y e => (by cases e; exact ⟨h.len, h.asc⟩)⟩
def firstBad : List Str → Nat → Option Nat
  | [], _ => none
  | p :: ps, k => if isNameB p = true then firstBad ps (k + 1) else some k
theorem firstBad_none : ∀ {ps : List Str} {k : Nat}, (∀ p ∈ ps, isNameB p = true) → firstBad ps k = none
  | [], _, _ => rfl
  | p :: ps, k, h => by
    unfold firstBad
    rw [if_pos (h p List.mem_cons_self)]
    exact firstBad_none fun q hq => h q (List.mem_cons_of_mem _ hq)
theorem firstBad_all : ∀ {ps : List Str} {k : Nat}, firstBad ps k = none → ∀ p ∈ ps, isNameB p = true
  | [], _, _, p, hp => by cases hp
  | p :: ps, k, h, q, hq => by
    unfold firstBad at h
    split at h
    · next c =>
      rcases List.mem_cons.mp hq with rfl | hq
      · exact c
      · exact firstBad_all h q hq
    · cases h
theorem firstBad_at : ∀ {ps : List Str} {k j : Nat} {p : Str}, ps[j]? = some p → isNameB p = false → (∀ i q, i < j → ps[i]? = some q → isNameB q = true) → firstBad ps k = some (k + j)
  | [], _, _, _, h, _, _ => by simp at h
  | q :: ps, k, 0, p, h, hb, _ => by
    simp at h
    subst h
    unfold firstBad
    rw [if_neg (by rw [hb]; decide)]
    rfl
  | q :: ps, k, j + 1, p, h, hb, ha => by
    unfold firstBad
    rw [if_pos (ha 0 q (by omega) rfl), firstBad_at (j := j) (by simpa using h) hb fun i r hi hr => ha (i + 1) r (by omega) (by simpa using hr)]
    congr 1
    omega
def wayT (z : Str) : T := if z = "" then .tup [] else match firstBad (Txt.split z sep) 0 with
  | none => .tup ((Txt.split z sep).map T.str)
  | some k => .int k
def gotWT : T → T
  | .str z => wayT z
  | _ => .int 0
theorem way_nil : wayT "" = .tup [] := if_pos rfl
theorem way_all {z : Str} (n : z ≠ "") (h : ∀ p ∈ Txt.split z sep, isNameB p = true) : wayT z = .tup ((Txt.split z sep).map T.str) := by
  unfold wayT
  rw [if_neg n, firstBad_none h]
theorem way_bad {z : Str} {j : Nat} {p : Str} (n : z ≠ "") (h : (Txt.split z sep)[j]? = some p) (hb : isNameB p = false) (ha : ∀ i q, i < j → (Txt.split z sep)[i]? = some q → isNameB q = true) : wayT z = .int j := by
  unfold wayT
  rw [if_neg n, firstBad_at h hb ha, Nat.zero_add]
theorem got_no {t : T} (h : isStrT t = false) : gotWT t = .int 0 := by cases t <;> first | rfl | cases h
theorem isName_nm {z : Str} (h : isNameB z = true) : Nm z := by
  unfold isNameB at h
  rw [Bool.and_eq_true, decide_eq_true_eq, List.all_eq_true] at h
  refine ⟨h.1.1, h.1.2, fun c hc => ?_⟩
  have := h.2 c hc
  unfold lowB at this
  simpa using this
theorem way_kind {z : Str} : (∃ ps : List Str, wayT z = .tup (ps.map T.str) ∧ (∀ p ∈ ps, Nm p) ∧ ps.length ≤ z.length + 2) ∨ ∃ k : Nat, wayT z = .int k ∧ k ≤ z.length + 2 := by
  unfold wayT
  by_cases c : z = ""
  · rw [if_pos c]; exact .inl ⟨[], rfl, (fun p hp => by cases hp), Nat.zero_le _⟩
  · rw [if_neg c]
    cases e : firstBad (Txt.split z sep) 0 with
    | none => exact .inl ⟨_, rfl, fun p hp => isName_nm (firstBad_all e p hp), PyProof.Rows.split_le z sep⟩
    | some k =>
      refine .inr ⟨k, rfl, ?_⟩
      have key : ∀ (ps : List Str) (j i : Nat), firstBad ps j = some i → i ≤ j + ps.length := by
        intro ps
        induction ps with
        | nil => intro j i h; cases h
        | cons p ps ih =>
          intro j i h
          unfold firstBad at h
          split at h
          · have := ih _ _ h; simp only [List.length_cons]; omega
          · cases h; omega
      have := key _ _ _ e
      have := PyProof.Rows.split_le z sep
      omega
def lReadWay (CN : Addr) : LSp := fun ts q x => ∃ t, ts = [t] ∧ t.kn ∧ (∀ z, t = .str z → Pt 100000 z) ∧ (∀ us, gotWT t = .tup us → q (.sh (.tup us)) .non) ∧ ∀ i, gotWT t = .int i → x CN [("row", .int i)] .non
def lShowWay : LSp := fun ts q _ => ∃ t ps, ts = [t] ∧ sqT t = some (ps.map T.str) ∧ wt ps ≤ 1000000 ∧ q (.sh (.str (Txt.join sep ps))) .non
def lLawWayIn : LSp := fun ts q _ => ∃ z, ts = [.str z] ∧ Pt 100000 z ∧ q (.sh (wayT z)) .non
def lLawGotW : LSp := fun ts q _ => ∃ t, ts = [t] ∧ t.kn ∧ (∀ z, t = .str z → Pt 100000 z) ∧ q (.sh (gotWT t)) .non
def lBentW : LSp := fun ts q _ => ∃ tp z m n, ts = [tp, .str z] ∧ PenOk n tp ∧ n + 10 < 2 ^ 62 ∧ Pt m z ∧ m ≤ 100000 ∧ ∀ z' tp', Pt (4 * m + 60) z' → PenOk (n + 4) tp' → q (.sh (.str z')) tp'
theorem bent_of {z : Str} {m : Nat} (pz : Pt m z) {ys : List Str} (h : wt ys ≤ 2 * m + 30) (a : ∀ p ∈ ys, p ∈ Txt.split z sep ∨ ∀ c ∈ p.cps.toList, c ≤ 127) : Pt (4 * m + 60) (Txt.join sep ys) :=
  (Pt.join h fun p hp => (a p hp).elim (split_asc pz.asc p) id).mono (by omega)
theorem enum_get {ps : List Str} {k : Nat} {t : T} (h : (enumT (ps.map T.str))[k]? = some t) : ∃ p, ps[k]? = some p ∧ t = .tup [.int k, .str p] := by
  unfold enumT at h
  rw [List.getElem?_mapIdx, List.getElem?_map] at h
  cases e : ps[k]? with
  | none => rw [e] at h; cases h
  | some p => rw [e] at h; cases h; exact ⟨p, rfl, rfl⟩
theorem Shw.strsT {zs : List Str} {m : Nat} (h : ∀ z ∈ zs, Nm z) (l : zs.length ≤ m) : Shw 2 (m * 84 + 3) (.tuple (zs.map PyData.str)) := by
  have z := ShwA.all (k := 1) (n := 82) (ds := zs.map PyData.str) fun d hd => by
    obtain ⟨z, hz, rfl⟩ := List.mem_map.mp hd
    exact Shw.str (h z hz)
  rw [List.length_map] at z
  exact Shw.tuple (z.mono (Nat.le_refl _) (Nat.mul_le_mul_right _ l))
theorem dtz_strs {zs : List Str} (h : ∀ z ∈ zs, Nm z) (l : zs.length ≤ 100002) : Dtz (.tup (zs.map T.str)) (.tuple (zs.map PyData.str)) :=
  .inl ⟨.tup (dats_strs zs), (Shw.strsT h l).mono (by decide) (by decide)⟩
theorem dtz_int {k : Int} (l : k.natAbs < 10 ^ 14) : Dtz (.int k) (.int k) := .inl ⟨.int _, (Shw.int (j := 14) (by decide) (by decide) l).mono (by decide) (by decide)⟩
theorem way_dtz {z : Str} (l : z.length ≤ 100000) : ∃ d, Dtz (wayT z) d := by
  rcases way_kind (z := z) with ⟨ps, e, h, hl⟩ | ⟨k, e, hl⟩
  · rw [e]; exact ⟨_, dtz_strs h (by omega)⟩
  · rw [e]; exact ⟨_, dtz_int (by omega)⟩
theorem nm_isName {z : Str} (h : Nm z) : isNameB z = true := by
  unfold isNameB
  rw [decide_eq_true (show 1 ≤ z.length ∧ z.length ≤ 8 from ⟨h.1, h.2.1⟩), Bool.true_and, List.all_eq_true]
  intro c hc
  have := h.2.2 c hc
  unfold lowB
  simp
  omega
theorem way_join {ys : List Str} (h : ∀ y ∈ ys, Nm y) : wayT (Txt.join sep ys) = .tup (ys.map T.str) := by
  by_cases c : ys = []
  · subst c
    rfl
  · have e := split_of c h
    have n : Txt.join sep ys ≠ "" := by
      intro z
      rw [z] at e
      have e2 : Txt.split "" sep = [("" : Str)] := by decide +kernel
      rw [e2] at e
      have := (h "" (by rw [← e]; exact List.mem_cons_self)).1
      exact absurd this (by decide)
    rw [way_all n fun p hp => nm_isName (h p (by rw [e] at hp; exact hp)), e]
theorem nms_wt {ps : List Str} (h : ∀ p ∈ ps, Nm p) : wt ps ≤ ps.length * 9 := by
  induction ps with
  | nil => exact Nat.le_refl _
  | cons p ps ih =>
    have := ih fun q hq => h q (List.mem_cons_of_mem _ hq)
    have := (h p List.mem_cons_self).2.1
    unfold wt at *
    simp only [List.map_cons, List.sum_cons, List.length_cons]
    omega
end LP
end
section
set_option maxRecDepth 100000
set_option maxHeartbeats 4000000
namespace LH
open PySem L2
theorem pg_tupK {X : Cx} {K : PySem.W.Frag} {n : Nat} {pos : Pos} {es : List Expr} {k : Nat} {t : TGs} (hK : X.K = K) (hc : X.calm = true) (h : PGs X es t)
    (hn : (assignEach es X.env).length = n := by rfl) (hst : (assignEach es X.env).findIdx? (·.1) = none := by rfl) : PG X (.Tuple es k pos) (gTup K n t) := by
  subst hK
  exact pg_tup hc h hn hst
end LH
namespace LP
open PySem L2 LH
/-! ### ways gone -/
structure Walk (D : TData) (zs : List Str) (sts : List (Int × Str)) (prs : List Int) : Prop where
  ls : sts.length = zs.length + 1
  lp : prs.length = zs.length
  nm : ∀ z ∈ zs, Nm z
  go : ∀ i z a b p, zs[i]? = some z → sts[i]? = some a → sts[i + 1]? = some b → prs[i]? = some p → goneAt D a.1 a.2 z = .told b.1 b.2 p
abbrev standT (a : Int × Str) : T := .tup [.int a.1, .str a.2]
theorem Walk.one (D : TData) (a : Int × Str) : Walk D [] [a] [] := ⟨rfl, rfl, (fun z m => by cases m), (fun i z a b p h1 _ _ _ => by simp at h1)⟩
theorem get_snoc_lt {α : Type} {xs : List α} {x y : α} {i : Nat} (h : (xs ++ [x])[i]? = some y) (l : i < xs.length) : xs[i]? = some y := by
  rwa [List.getElem?_append_left l] at h
theorem get_snoc_eq {α : Type} {xs : List α} {x y : α} {i : Nat} (h : (xs ++ [x])[i]? = some y) (l : i = xs.length) : x = y := by
  subst l
  rw [List.getElem?_append_right (Nat.le_refl _)] at h
  simpa using h
theorem Walk.snoc {D : TData} {zs : List Str} {sts : List (Int × Str)} {prs : List Int} {a b : Int × Str} {z : Str} {p : Int} (w : Walk D zs sts prs) (h : sts[zs.length]? = some a) (hz : Nm z) (g : goneAt D a.1 a.2 z = .told b.1 b.2 p) : Walk D (zs ++ [z]) (sts ++ [b]) (prs ++ [p]) := by
  have ls := w.ls
  have lp := w.lp
  refine ⟨by simp [ls], by simp [lp], fun y m => ?_, fun i y c d q h1 h2 h3 h4 => ?_⟩
  · rcases List.mem_append.mp m with m | m
    · exact w.nm y m
    · rw [List.mem_singleton.mp m]; exact hz
  · have hi : i < zs.length + 1 := by
      have := (List.getElem?_eq_some_iff.mp h1).1
      simpa using this
    by_cases c1 : i = zs.length
    · have e1 := get_snoc_eq h1 c1
      have e2 := get_snoc_lt h2 (by omega)
      have e3 := get_snoc_eq h3 (by omega)
      have e4 := get_snoc_eq h4 (by omega)
      subst e1 e3 e4
      rw [c1, h] at e2
      cases e2
      exact g
    · exact w.go i y c d q (get_snoc_lt h1 (by omega)) (get_snoc_lt h2 (by omega)) (get_snoc_lt h3 (by omega)) (get_snoc_lt h4 (by omega))
/-- what is told is a door's -/
theorem told_door {D : TData} {h h' : Int} {r z g : Str} {p : Int} (e : goneAt D h r z = .told h' g p) : ∃ d ∈ (D.at' h).doors, h' = h + d.move ∧ g = d.goal ∧ p = d.price := by
  unfold goneAt at e
  cases c : doorOf (D.at' h) z with
  | none => rw [c] at e; cases e
  | some d =>
    rw [c] at e
    refine ⟨d, List.mem_of_find?_eq_some c, ?_⟩
    dsimp only at e
    split at e
    · split at e
      · cases e; exact ⟨rfl, rfl, rfl⟩
      · cases e
    · cases e
theorem Walk.near {D : TData} {zs : List Str} {sts : List (Int × Str)} {prs : List Int} {h0 : Int} {r0 : Str} (w : Walk D zs sts prs) (ok : TOk D) (h : sts[0]? = some (h0, r0)) : ∀ (i : Nat) (a : Int × Str), sts[i]? = some a → h0 - i ≤ a.1 ∧ a.1 ≤ h0 + i
  | 0, a, e => by rw [h] at e; cases e; exact ⟨by simp, by simp⟩
  | i + 1, a, e => by
    have hl := (List.getElem?_eq_some_iff.mp e).1
    have ls := w.ls
    have lp := w.lp
    have e1 : sts[i]? = some sts[i] := List.getElem?_eq_getElem (by omega)
    have e2 : zs[i]? = some zs[i] := List.getElem?_eq_getElem (by omega)
    have e3 : prs[i]? = some prs[i] := List.getElem?_eq_getElem (by omega)
    have ih := Walk.near w ok h i _ e1
    obtain ⟨d, hd, e4, _⟩ := told_door (w.go i _ _ _ _ e2 e1 e e3)
    have mv := ((TOk.at' ok _).dd d hd).mv
    omega
theorem Walk.room {D : TData} {zs : List Str} {sts : List (Int × Str)} {prs : List Int} {h0 : Int} {r0 : Str} (w : Walk D zs sts prs) (ok : TOk D) (h : sts[0]? = some (h0, r0)) (n0 : Nm r0) : ∀ a ∈ sts, Nm a.2 := by
  intro a m
  obtain ⟨i, e⟩ := List.getElem?_of_mem m
  cases i with
  | zero => rw [h] at e; cases e; exact n0
  | succ i =>
    have hl := (List.getElem?_eq_some_iff.mp e).1
    have ls := w.ls
    have lp := w.lp
    have e1 : sts[i]? = some sts[i] := List.getElem?_eq_getElem (by omega)
    have e2 : zs[i]? = some zs[i] := List.getElem?_eq_getElem (by omega)
    have e3 : prs[i]? = some prs[i] := List.getElem?_eq_getElem (by omega)
    obtain ⟨d, hd, _, e4, _⟩ := told_door (w.go i _ _ _ _ e2 e1 e e3)
    rw [e4]
    exact ((TOk.at' ok _).dd d hd).gl
/-! one sort about a house -/
def Alike (D D' : TData) (s h0 : Int) (n : Nat) (S : SData) : Prop := ∀ h, h0 - n ≤ h → h ≤ h0 + n → D.at' h = S ∧ D'.at' (h + s) = S
def shG (s : Int) : Got → Got
  | .told h g p => .told (h + s) g p
  | .why w => .why w
theorem gone_shift {D D' : TData} {s h0 h : Int} {n : Nat} {S : SData} {r z : Str} (al : Alike D D' s h0 n S) (ok : TOk D) (h1 : h0 - n < h) (h2 : h < h0 + n) : goneAt D' (h + s) r z = shG s (goneAt D h r z) := by
  obtain ⟨a1, a2⟩ := al h (by omega) (by omega)
  have dd := (TOk.at' ok h).dd
  unfold goneAt
  rw [a1] at dd ⊢
  rw [a2]
  cases c : doorOf S z with
  | none => rfl
  | some d =>
    have mv := (dd d (List.mem_of_find?_eq_some c)).mv
    obtain ⟨b1, b2⟩ := al (h + d.move) (by omega) (by omega)
    dsimp only
    rw [show h + s + d.move = h + d.move + s by omega, b1, b2]
    by_cases c1 : d.room = r
    · rw [if_pos c1, if_pos c1]
      by_cases c2 : d.goal ∈ S.rooms
      · rw [if_pos c2, if_pos c2]; rfl
      · rw [if_neg c2, if_neg c2]; rfl
    · rw [if_neg c1, if_neg c1]; rfl
theorem there_shift {D D' : TData} {s h0 h : Int} {n : Nat} {S : SData} {r : Str} (al : Alike D D' s h0 n S) (ok : TOk D) (h1 : h0 - n < h) (h2 : h < h0 + n) : (D'.at' (h + s)).doors.filter (isThere D' (h + s) r) = (D.at' h).doors.filter (isThere D h r) := by
  obtain ⟨a1, a2⟩ := al h (by omega) (by omega)
  have dd := (TOk.at' ok h).dd
  rw [a1] at dd ⊢
  rw [a2]
  refine List.filter_congr fun d hd => ?_
  have mv := (dd d hd).mv
  obtain ⟨b1, b2⟩ := al (h + d.move) (by omega) (by omega)
  unfold isThere
  rw [show h + s + d.move = h + d.move + s by omega, b1, b2]
abbrev shS (s : Int) (a : Int × Str) : Int × Str := (a.1 + s, a.2)
theorem Walk.shift {D D' : TData} {s h0 : Int} {r0 : Str} {n : Nat} {S : SData} {zs : List Str} {sts : List (Int × Str)} {prs : List Int} (w : Walk D zs sts prs) (al : Alike D D' s h0 n S) (ok : TOk D) (h : sts[0]? = some (h0, r0)) (l : zs.length < n) : Walk D' zs (sts.map (shS s)) prs := by
  have ls := w.ls
  refine ⟨by simp [ls], w.lp, w.nm, fun i z a b p h1 h2 h3 h4 => ?_⟩
  rw [List.getElem?_map] at h2 h3
  have hi := (List.getElem?_eq_some_iff.mp h1).1
  have e1 : sts[i]? = some sts[i] := List.getElem?_eq_getElem (by omega)
  have e2 : sts[i + 1]? = some sts[i + 1] := List.getElem?_eq_getElem (by omega)
  have g := w.go i z _ _ p h1 e1 e2 h4
  have nr := w.near ok h i _ e1
  rw [e1] at h2
  rw [e2] at h3
  cases h2
  cases h3
  rw [gone_shift al ok (by omega) (by omega), g]
  rfl
theorem rising_find {ds : List Door} {d : Door} (h : Rising ds) (m : d ∈ ds) : (ds.find? fun x => decide (x.name = d.name)) = some d := by
  induction ds with
  | nil => cases m
  | cons e ds ih =>
    have h' : (∀ x ∈ ds, sLt e.name x.name) ∧ Rising ds := List.pairwise_cons.mp h
    rcases List.mem_cons.mp m with rfl | m
    · exact List.find?_cons_of_pos (decide_eq_true rfl)
    · rw [List.find?_cons_of_neg]
      · exact ih h'.2 m
      · intro z
        exact sLt_ne (h'.1 d m) (of_decide_eq_true z)
theorem there_gone {D : TData} {h : Int} {r : Str} {d : Door} (ok : TOk D) (m : d ∈ (D.at' h).doors.filter (isThere D h r)) : goneAt D h r d.name = .told (h + d.move) d.goal d.price ∧ Nm d.name ∧ Nm d.goal := by
  obtain ⟨m1, m2⟩ := List.mem_filter.mp m
  have so := TOk.at' ok h
  unfold isThere at m2
  rw [Bool.and_eq_true, decide_eq_true_eq, decide_eq_true_eq] at m2
  refine ⟨?_, (so.dd d m1).nm, (so.dd d m1).gl⟩
  unfold goneAt
  rw [show doorOf (D.at' h) d.name = some d from rising_find so.dr m1]
  dsimp only
  rw [if_pos m2.1, if_pos m2.2]
def lGoneIn (CS CT CP : Addr) : LSp := fun ts q _ => ∃ D h r z i h' g p, ts = [planT CS CT CP D, .tup [.int h, .str r], .str z, .int i] ∧ TOk D ∧ Nm z ∧ goneAt D h r z = .told h' g p ∧ q (.sh (toldT h' g p)) (planT CS CT CP D)
def lThrough (CS CT : Addr) : LSp := fun ts q _ => ∃ D h r zs sts prs, ts = [streetO CS CT D, .tup [.int h, .str r], .lst (zs.map T.str)] ∧ TOk D ∧ zs.length ≤ 1000 ∧ Walk D zs sts prs ∧ sts[0]? = some (h, r) ∧ q (.sh (.tup [.lst (sts.map standT), .int prs.sum])) .non
def lPlayed (CS CT : Addr) : LSp := fun ts q _ => ∃ D h r zs sts prs, ts = [streetO CS CT D, .tup [.int h, .str r], .lst (zs.map T.str)] ∧ TOk D ∧ zs.length ≤ 1000 ∧ Walk D zs sts prs ∧ sts[0]? = some (h, r) ∧ q (.sh (.lst (sts.map standT))) .non
def lPriceOf (CS CT : Addr) : LSp := fun ts q _ => ∃ D h r zs sts prs, ts = [streetO CS CT D, .tup [.int h, .str r], .lst (zs.map T.str)] ∧ TOk D ∧ zs.length ≤ 1000 ∧ Walk D zs sts prs ∧ sts[0]? = some (h, r) ∧ q (.sh (.int prs.sum)) .non
def lStrolled : LSp := fun ts q _ => ∃ tp D h r m n, ts = [tp, streetT D, .tup [.int h, .str r], .int m] ∧ PenOk n tp ∧ TOk D ∧ Nm r ∧ 0 ≤ m ∧ m ≤ 100 ∧ n + 200 < 2 ^ 62 ∧ ∀ zs sts prs a tp', Walk D zs sts prs → sts[0]? = some (h, r) → zs.length ≤ m.toNat → PenOk (n + 100) tp' → q (.sh (.tup [.lst (zs.map T.str), standT a])) tp'
def whyT : Got → T
  | .told _ _ _ => .non
  | .why w => .str w
def lRefusal (CS CT : Addr) : LSp := fun ts q _ => ∃ D h r z, ts = [streetO CS CT D, .tup [.int h, .str r], .str z] ∧ TOk D ∧ Nm z ∧ q (.sh (whyT (goneAt D h r z))) .non
/-- nothing but the list is made, whatever the target -/
theorem w_klcG {α : Type} {ρ ρ2 : Env} {le : LE} {lg : LG} {Q : PV → Env → Prop} {f : α → T} {xs : List α} {vs : List Nat} (g : α → T) (hk : hok ρ vs = true) (hz : xs.length ≤ 1000000) (e : wipeE ρ vs = ρ2)
    (h1 : ∀ x, x ∈ xs → ∀ (N1 : T → Env → Prop), N1 (g x) ρ2 → lg (f x) ρ2 fun ρ3 => le ρ3 fun p ρ5 => kItem vs p ρ5 N1)
    (h2 : Q (.ow (.lst (xs.map g))) ρ2) : kLc lg lYes le vs (xs.map f) ρ Q := by
  refine w_klc (fun k acc ρ' => acc = (xs.take k).map g ∧ ρ' = ρ2) hk (by simpa using hz) e ⟨rfl, rfl⟩ (fun k acc t ρ' ht hl hI => ?_) fun acc ρ' hI => ?_
  · obtain ⟨rfl, rfl⟩ := hI
    rw [List.getElem?_map] at ht
    cases hx : xs[k]? with
    | none => rw [hx] at ht; cases ht
    | some x =>
      rw [hx] at ht
      cases ht
      have z := h1 x (List.mem_of_getElem? hx) (fun u ρ6 => (xs.take k).map g ++ [u] = (xs.take (k + 1)).map g ∧ ρ6 = ρ') ⟨by rw [List.take_add_one, hx, List.map_append]; rfl, rfl⟩
      have e : (fun ρ3 => le ρ3 fun p ρ5 => kItem vs p ρ5 fun u ρ6 => (xs.take k).map g ++ [u] = (xs.take (k + 1)).map g ∧ ρ6 = ρ') = fun ρ3 => lYes ρ3 fun b ρ4 => if b = true then le ρ4 fun p ρ5 => kItem vs p ρ5 fun u ρ6 => (xs.take k).map g ++ [u] = (xs.take (k + 1)).map g ∧ ρ6 = ρ' else kSkip vs ρ4 fun ρ6 => (xs.take k).map g = (xs.take (k + 1)).map g ∧ ρ6 = ρ' := by
        funext ρ3
        exact (fun (A B : Prop) => ((if_pos rfl).symm : A = if true = true then A else B)) _ (kSkip vs ρ3 fun ρ6 => (xs.take k).map g = (xs.take (k + 1)).map g ∧ ρ6 = ρ')
      rw [e] at z
      exact z
  · obtain ⟨rfl, rfl⟩ := hI
    rw [List.length_map, List.take_length]
    exact h2
def standD (a : Int × Str) : PyData := .tuple [.int a.1, .str a.2]
theorem dat_stands (xs : List (Int × Str)) : Dat (.lst (xs.map standT)) (.list (xs.map standD)) := .lst (dats_map xs fun a _ => dat_stand a.1 a.2)
theorem shw_stands {xs : List (Int × Str)} {m : Nat} (h : ∀ a ∈ xs, a.1.natAbs < 10 ^ 14 ∧ Nm a.2) (l : xs.length ≤ m) : Shw 3 (m * 106 + 3) (.list (xs.map standD)) := by
  have z := ShwA.all (k := 2) (n := 104) (ds := xs.map standD) fun d hd => by
    obtain ⟨a, ha, rfl⟩ := List.mem_map.mp hd
    exact shw_stand (h a ha).1 (h a ha).2
  rw [List.length_map] at z
  exact Shw.list (z.mono (Nat.le_refl _) (Nat.mul_le_mul_right _ l))
theorem why_dat {D : TData} {h : Int} {r z : Str} (nz : Nm z) : ∃ d, Dat (whyT (goneAt D h r z)) d ∧ SeqAt.shaped d = true ∧ PyData.eqv d d = true := by
  rcases gone_cases D h r (.str z) with ⟨w, e, key⟩ | ⟨d, _, e, _⟩
  · rw [gone_name (Nm.isName nz)] at e
    rw [e]
    have hw : Sn w := by rcases key with rfl | rfl | rfl | rfl <;> exact ⟨by decide, by decide⟩
    exact ⟨_, .str w, (Shw.sn hw).shaped (by decide), (Shw.sn hw).eqv⟩
  · rw [gone_name (Nm.isName nz)] at e
    rw [e]
    exact ⟨_, .non, Shw.non.shaped (by decide), Shw.non.eqv⟩
theorem why_shift (s : Int) (g : Got) : whyT (shG s g) = whyT g := by cases g <;> rfl
theorem bare_at (S : SData) (h : Int) : (⟨S, 0, [], S⟩ : TData).at' h = S := by
  by_cases c : h - 0 < 0
  · exact TData.at_left (D := ⟨S, 0, [], S⟩) c
  · exact TData.at_right (D := ⟨S, 0, [], S⟩) c c
theorem mem4 {α : Type} {a b c d x : α} {j : Nat} (h : [a, b, c, d][j]? = some x) : x = a ∨ x = b ∨ x = c ∨ x = d := by
  have := List.mem_of_getElem? h
  simpa using this
end LP
end
section
set_option maxRecDepth 100000
set_option maxHeartbeats 4000000
/-! ### sorted of tuples, the first of which is empty -/
namespace PySem.SeqAt
open PySem PySem.Calls PyProof.Rows
section
variable {A : Around} {s : Shared}
theorem call_tuple_lt {prog : Program} {w : World} {E : Value → Shared → Prop} {Q : Value → Shared → Prop} {l b : Addr} {items items2 : Array Value} {e r : Nat → Bool} (hl : s.heap.IsTuple l items) (hb : s.heap.IsTuple b items2)
    (he : ∀ j (h1 : j < items.size) (h2 : j < items2.size), EqAt A.in1 s items[j] items2[j] (e j)) (hr : ∀ j (h1 : j < items.size) (h2 : j < items2.size), e j = false → RcLt A.in1 s items[j] items2[j] (r j))
    (h : Q (.bool (firstLt e r (decide (items.size < items2.size)) (List.range (min items.size items2.size)))) s) : wpAny (model prog w) A (call (.builtin "tuple.__lt__") [.ref l, .ref b]) Q E s := by
  obtain ⟨⟨cls, dd, data, sl⟩, ho, hc, n, hd⟩ := id hl
  obtain ⟨⟨cls2, dd2, data2, sl2⟩, ho2, hc2, n2, hd2⟩ := id hb
  simp only at hc hd hc2 hd2
  subst hc hd hc2 hd2
  exact call_meets F.slot_tuple_lt ⟨_, ho, rfl⟩ F.entry_tuple_lt (F.args_tuple_lt_2 _ _) (tuple_ltAt l b items items2 n n2 dd dd2 sl sl2 e r) ⟨ho, ho2, he, hr, h⟩
end
end PySem.SeqAt
namespace PySem.W
open PySem PySem.Calls PyProof.Rows SeqAt
section
variable {prog : Program} {w : World} {A : Around} {E : Value → Shared → Prop} {s : Shared}
theorem oneLt_tup {xs ys : List PyData} {a b : Value} {as bs : List Addr} {Q : Bool → Shared → Prop} (ra : Reads s.heap a (.tuple xs) as) (rb : Reads s.heap b (.tuple ys) bs) (hal : alikeAll xs ys = true)
    (hu : A.units + min (PyData.tuple xs).depth (PyData.tuple ys).depth < cLine) (hq : Q (dataLt (.tuple xs) (.tuple ys)) s) : wpAny (model prog w) A (oneLt' true a b) Q E s := by
  cases ra with
  | @tuple l o vs n _ as₁ h1 h2 h3 h4 =>
    cases rb with
    | @tuple l' o' vs' n' _ bs₁ k1 k2 k3 k4 =>
      have n1 : vs.size = xs.length := by simpa using ReadsAll.length _ _ _ h4
      have n2 : vs'.size = ys.length := by simpa using ReadsAll.length _ _ _ k4
      rw [dataLt_tuple, ← firstLt_toks xs ys hal, ← n1, ← n2] at hq
      rw [oneLt'_eq]
      simp only [if_true]
      refine wpAny_bind (wpAny_cRoomFor (room_here hu) ?_)
      refine wpAny_bind (wpAny_callSpecialIfBound?_slot (T := "tuple") ⟨_, h1, h2⟩ F.slot_tuple_lt (call_tuple_lt (e := pairEq xs ys) (r := fun j => dataLt (xs.getD j .none) (ys.getD j .none)) ⟨_, h1, h2, _, h3⟩ ⟨_, k1, k2, _, k3⟩ (fun j j1 j2 => ?_) (fun j j1 j2 hj => ?_) ?_))
      · have := eqAt_alikeAll xs ys A.in1 s vs.toList vs'.toList _ _ h4 k4 hal (room_in hu) j (by simpa using j1) (by simpa using j2)
        simpa using this
      · have := rcLt_alikeAll xs ys A.in1 s vs.toList vs'.toList _ _ h4 k4 hal (room_in hu) j (by simpa using j1) (by simpa using j2) hj
        simpa using this
      · exact wpAny_truthy_bool hq
theorem firsts_any : ∀ (vs : List Value) {Q : List (Option Value) → Shared → Prop}, (∀ v ∈ vs, ∃ xs as, Reads s.heap v (.tuple xs) as) → (∀ bs, (∀ v r as, vs = v :: r → Reads s.heap v (.tuple []) as → ∃ t, bs = none :: t) → Q bs s) → wpAny (model prog w) A (vs.mapM firstOfTuple') Q E s
  | [], Q, _, h => by rw [List.mapM_nil]; exact wpAny_pure (h [] (fun v r as e => by cases e))
  | v :: vs, Q, hv, h => by
    obtain ⟨xs, as, r⟩ := hv v List.mem_cons_self
    rw [List.mapM_cons]
    refine wpAny_bind ?_
    cases r with
    | @tuple l o its n _ as₁ h1 h2 h3 h4 =>
      rw [kas_first_eq]
      refine wpAny_bind (Looks.here (show Looks _ s.heap (typeOf (.ref l)) o.cls from (Looks.ld h1).andThen .now) ?_)
      rw [h2, if_neg (by first | decide | simp)]
      refine wpAny_bind (listItems_at h1 h3 (wpAny_pure ?_))
      refine wpAny_bind (firsts_any vs (fun u hu => hv u (List.mem_cons_of_mem _ hu)) fun bs _ => wpAny_pure (h _ fun v' r' as' e rd => ?_))
      obtain ⟨rfl, rfl⟩ := List.cons.inj e
      cases rd with
      | tuple g1 g2 g3 g4 =>
        rw [h1] at g1; cases g1
        rw [h3] at g3
        injection g3 with g3
        subst g3
        cases g4' : its.toList with
        | nil =>
          have : its = #[] := by rw [← Array.toList_inj, g4']
          subst this
          exact ⟨_, rfl⟩
        | cons _ _ => rw [g4'] at g4; cases g4
theorem kind_tups {vs : List Value} {Q : SortKind → Shared → Prop} (h2 : 2 ≤ vs.length) (hv : ∀ v ∈ vs, ∃ xs as, Reads s.heap v (.tuple xs) as) (h0 : ∀ v r, vs = v :: r → ∃ as, Reads s.heap v (.tuple []) as) (h : Q oneType' s) : wpAny (model prog w) A (keyKind' vs.toArray) Q E s := by
  obtain ⟨v₁, v₂, rest, rfl⟩ : ∃ v₁ v₂ rest, vs = v₁ :: v₂ :: rest := by
    match vs, h2 with
    | [], h2 => simp at h2
    | [_], h2 => simp at h2
    | v₁ :: v₂ :: rest, _ => exact ⟨v₁, v₂, rest, rfl⟩
  obtain ⟨as0, r0⟩ := h0 _ _ rfl
  rw [keyKind'_eq, List.mapM_toArray, map_eq_pure_bind]
  refine wpAny_bind (wpAny_bind (firsts_any _ hv fun bs hb => wpAny_pure ?_))
  obtain ⟨t, rfl⟩ := hb _ _ _ rfl r0
  rw [if_neg (by simp), if_neg (by simp)]
  rw [oneTypeOnly'_eq, List.mapM_toArray, map_eq_pure_bind]
  refine wpAny_bind (wpAny_bind (wpAny_bind (kas_mapM (r := Value.type "tuple") _ (fun v hv' Q' hq => ?_) (wpAny_pure ?_))))
  · obtain ⟨xs, as, r⟩ := hv v hv'
    exact (looks_reads r).here hq
  · have hall : ((List.map (fun _ => Value.type "tuple") (v₁ :: v₂ :: rest)).toArray.all fun x => x == Value.type "tuple") = true := by
      simp only [List.all_toArray, List.all_map, List.all_eq_true]
      intro _ _
      exact beq_self_eq_true _
    have h0 : (List.map (fun _ => Value.type "tuple") (v₁ :: v₂ :: rest)).toArray[0]? = some (Value.type "tuple") := by simp
    rw [h0]
    simp only [hall, if_true]
    exact wpAny_pure (wpAny_pure h)
/-- all tuples, the first one empty -/
def Tup0 (ds : List PyData) : Prop := (∀ d, d ∈ ds → ∃ xs, d = .tuple xs) ∧ ∀ d r, ds = d :: r → d = .tuple []
theorem SortsAt.tup0 {vs : List Value} {ds : List PyData} (e : EachIs (fun v d => ∃ as, Reads s.heap v d as) vs ds) (hal : AllAlike ds) (hk : Tup0 ds) (hu : ∀ d, d ∈ ds → A.units + d.depth < cLine) : SortsAt prog w A s (dataKind s.heap ds) vs := by
  refine ⟨fun v hv => ?_, oneType', ?_, fun h2 E Q hq => ?_⟩
  · obtain ⟨d, hd, as, r⟩ := e.left v hv
    exact ⟨_, dataKind_some hal hd r⟩
  · intro E x y a b Q ha hb hq
    obtain ⟨d, as, hd, ra, rfl⟩ := dataKind_inv ha
    obtain ⟨d', as', hd', rb, rfl⟩ := dataKind_inv hb
    rw [keyLt'_oneType]
    obtain ⟨xs, rfl⟩ := hk.1 d hd
    obtain ⟨ys, rfl⟩ := hk.1 d' hd'
    exact oneLt_tup ra rb (by simpa [alike] using hal _ hd _ hd') (Nat.lt_of_le_of_lt (Nat.add_le_add_left (Nat.min_le_left _ _) _) (hu _ hd)) hq
  · refine kind_tups h2 (fun v hv => ?_) (fun v r ev => ?_) hq
    · obtain ⟨d, hd, as, r⟩ := e.left v hv
      obtain ⟨xs, rfl⟩ := hk.1 d hd
      exact ⟨xs, as, r⟩
    · subst ev
      cases e with
      | cons h t =>
        obtain ⟨as, h⟩ := h
        have := hk.2 _ _ rfl
        subst this
        exact ⟨as, h⟩
end
section
variable {prog : Program} {w : World} {A : Around} {E : Value → Shared → Prop} {s : Shared} {β : Type} {vs : List Value} {bs : List β} {enc : β → PyData} {R : Value → β → Prop}
theorem sorted_tup0 {l : Addr} {Q : Value → Shared → Prop} (hl : s.heap.IsList l vs.toArray) (e : EachIs R vs bs) (er : EachIs (fun v b => ∃ as, Reads s.heap v (enc b) as) vs bs) (hal : AllAlike (bs.map enc)) (hk : Tup0 (bs.map enc)) (hL : bs.length ≤ sizeLine)
    (hu : ∀ b, b ∈ bs → A.units + 2 + (enc b).depth < cLine) (h : ∀ out, out.length = bs.length → EachIs R out (bs.mergeSort (dataLe false enc)) → Q (.ref (s.heap.objs.size + 1)) { s with heap := sortedAll s.heap vs (List.toArray out) }) :
    wpAny (model prog w) A (call (.builtin "sorted") [.ref l]) Q E s := by
  have er' : EachIs (fun v b => ∃ as, Reads (sortingHeap (copyHeap s.heap vs) (s.heap.objs.size + 1) vs) v (enc b) as) vs bs := er.mono fun _ _ ⟨as, r⟩ => ⟨as, PyProof.Rows.Reads.keeps (fun _ _ => sorting_copy_old) r⟩
  exact sorted_vals hl (SortsAt.tup0 (s := { s with heap := sortingHeap (copyHeap s.heap vs) (s.heap.objs.size + 1) vs }) (each_map (R := fun v d => ∃ as, Reads (sortingHeap (copyHeap s.heap vs) (s.heap.objs.size + 1) vs) v d as) enc er') hal hk (bound_map hu)) (by rw [e.length]; exact hL)
    (h _ (by rw [sortVals_length false rfl]; exact e.length) (sortVals_data false e er' hal))
end
end PySem.W
namespace LH
open PySem L2 LP PyProof.Rows
def rSort0 (K : PySem.W.Frag) : List V → Hp → VK → Prop := fun vs H Q => ∃ (a : Addr) (β : Type) (val : β → V) (enc : β → PyData) (bs : List β), vs = [.ref a] ∧ SqL K H a (bs.map val) ∧ (∀ b ∈ bs, Dp K H (val b) (enc b)) ∧ PySem.W.AllAlike (bs.map enc) ∧ PySem.W.Tup0 (bs.map enc) ∧ (∀ b ∈ bs, (enc b).depth ≤ 20) ∧
  rNO H (.lst ((bs.mergeSort (PySem.W.dataLe false enc)).map val)) fun l H' => Q (.ref l) H'
section
variable {X : Cx}
theorem cr_sorted0 (hu : X.A.units + 64 < cLine) : CallR X (.builtin "sorted") (rSort0 X.K) := by
  intro pins s σ H vs us Q I r h
  obtain ⟨a, β, val, enc, bs, rfl, hs, hdp, hal, hso, hdep, q⟩ := h
  obtain ⟨its, rv, hl, hz⟩ := I.list hs
  obtain ⟨u, rfl, ru⟩ := one_val r
  cases ru
  rw [List.length_map] at hz
  refine PySem.W.sorted_tup0 (isL_of hl) (each_of rv) (reads_of I rv hdp) hal hso hz (fun b hb => by have := hdep b hb; omega) fun out ho eo => ?_
  obtain ⟨ep, he'⟩ := sortedAll_at s.heap its out.toArray
  have rel := of_each eo
  exact ⟨.ref _, upd H (s.heap.objs.size + 1) (.lst _), I.laid (t' := s.toks) (fun _ _ => sortedAll_old) (Nat.le_succ _) ⟨by rw [rel.length, ho]; exact hz, out, ep, rel, he'⟩, rfl, q _ (I.hok.fresh (Nat.le_succ _))⟩
theorem cr_anyK {K : PySem.W.Frag} (hc : X.calm = true) (h : X.K = K) : CallR X (.builtin "any") (rAny K) := h ▸ cr_any hc
end
end LH
end
section
set_option maxRecDepth 100000
set_option maxHeartbeats 4000000
namespace LH
open PySem L2 LP
section
variable {X : Cx} {K : PySem.W.Frag}
theorem op_eqDK (h : X.K = K) (hu : X.A.units + 64 < cLine) : OpR X (compareOp .Eq) (rEqD K) := h ▸ op_eqD hu
theorem op_neDK (h : X.K = K) (hu : X.A.units + 64 < cLine) : OpR X (compareOp .NotEq) (rNeD K) := h ▸ op_neD hu
theorem op_InDK (h : X.K = K) (hu : X.A.units + 65 < cLine) : OpR X (compareOp .In) (rInD K) := h ▸ op_inD hu
theorem op_notInDK (h : X.K = K) (hu : X.A.units + 65 < cLine) : OpR X (compareOp .NotIn) (rNotInD K) := h ▸ op_notInD hu
theorem op_eqNilK (h : X.K = K) (hu : X.A.units < cLine) : OpR X (compareOp .Eq) (rEqL K) := h ▸ op_eqNil hu
theorem op_neNilK (h : X.K = K) (hu : X.A.units < cLine) : OpR X (compareOp .NotEq) (rNeL K) := h ▸ op_neNil hu
theorem call_tupOfK (h : X.K = K) : CallR X (.type "tuple") (rTupOf K) := h ▸ call_tupOf
theorem cr_allK (hc : X.calm = true) (h : X.K = K) : CallR X (.builtin "all") (rAll K) := h ▸ cr_all hc
theorem op_catAK (h : X.K = K) : OpR X (binaryOp .Add) (rCatA K) := h ▸ op_catA
end
end LH
namespace LP
open PySem L2 LH
section
variable {K : PySem.W.Frag} {av : Addr → Prop} {H : Hp}
def vAny (ts : List T) (P : PV → Prop) : Prop := ∃ bs : List Bool, ts = [.lst (bs.map T.bl)] ∧ P (.sh (.bl (bs.any id)))
theorem cls_any : CallS (rAny K) vAny := by
  rintro av H xs ts Q P lv hx ⟨bs, rfl, q⟩ k
  obtain ⟨x, rfl, hx1⟩ := hx.one
  obtain ⟨a, vs, rfl, e1, d⟩ := hx1.lst
  obtain rfl := d.bls
  exact ⟨a, bs, rfl, SqL.of e1, k _ _ _ q (Nw.here (.bl _))⟩
theorem v_any {bs : List Bool} {P : PV → Prop} (h : P (.sh (.bl (bs.any id)))) : vAny [.lst (bs.map T.bl)] P := ⟨bs, rfl, h⟩
theorem v_inI {z : Int} {zs : List Int} {P : PV → Prop} (h : P (.sh (.bl (decide (z ∈ zs))))) : vIn false (.int z) (.tup (zs.map T.int)) P := ⟨.int z, zs.map V.int, _, rfl, rfl, lfVs_ints zs, by rw [inV_ints]; exact h⟩
theorem v_notInI {z : Int} {zs : List Int} {P : PV → Prop} (h : P (.sh (.bl (!decide (z ∈ zs))))) : vIn true (.int z) (.tup (zs.map T.int)) P := ⟨.int z, zs.map V.int, _, rfl, rfl, lfVs_ints zs, by rw [inV_ints]; exact h⟩
theorem v_eqB {a b : Bool} {P : PV → Prop} (h : P (.sh (.bl (a == b)))) : vEq false (.bl a) (.bl b) P := ⟨.bl a, .bl b, rfl, rfl, rfl, by cases a <;> cases b <;> simpa using h⟩
theorem v_neB {a b : Bool} {P : PV → Prop} (h : P (.sh (.bl (a != b)))) : vEq true (.bl a) (.bl b) P := ⟨.bl a, .bl b, rfl, rfl, rfl, by cases a <;> cases b <;> simpa using h⟩
theorem v_inD {s t : T} {d : PyData} {ds : List PyData} {P : PV → Prop} (h1 : Dat s d) (h2 : Dat t (.list ds)) (h3 : SeqAt.shaped d = true) (h4 : SeqAt.shaped (.list ds) = true) (h : P (.sh (.bl (ds.any fun z => PyData.eqv z d)))) : vInD false s t P := ⟨d, ds, h1, h2, h3, h4, by rw [if_neg (by decide)]; exact h⟩
theorem v_notInD {s t : T} {d : PyData} {ds : List PyData} {P : PV → Prop} (h1 : Dat s d) (h2 : Dat t (.list ds)) (h3 : SeqAt.shaped d = true) (h4 : SeqAt.shaped (.list ds) = true) (h : P (.sh (.bl (!ds.any fun z => PyData.eqv z d)))) : vInD true s t P := ⟨d, ds, h1, h2, h3, h4, by rw [if_pos rfl]; exact h⟩
theorem v_rep {ts : List T} {k : Int} {P : PV → Prop} (h1 : 0 ≤ k ∧ k ≤ 1000) (h2 : ts.length * k.toNat ≤ 16777216) (h : P (.ow (.lst (List.replicate k.toNat ts).flatten))) : vRep (.lst ts) (.int k) P := ⟨ts, k, rfl, rfl, by omega, by omega, h2, h⟩
/-! a pair at once, shared from then on -/
def lParS (la : LA) (i j : Nat) : LS := fun L ρ => la ρ fun ps ρ1 => ∃ p q s t ρ2 ρ3, ps = [p, q] ∧ frz ρ1 q = some (t, ρ2) ∧ frz (ρ2.set j (some (.sh t))) p = some (s, ρ3) ∧ (∀ k, p ≠ .al k) ∧ L.nx (ρ3.set i (some (.sh s)))
theorem sn_parS {G : Gh} {S : Stk} {i j : Nat} {t : TA} {l : LA} (ij : i ≠ j) (h : SndA G t l) : SndS G S (tPar i j t) (lParS l i j) := by
  intro D L ρ σ H n r e q
  refine h ρ σ S H _ _ r q fun ps ρ1 vs H1 q1 hl R1 => ?_
  obtain ⟨p, q, s, t, ρ2, ρ3, rfl, e1, e2, np, q1⟩ := q1
  match vs, hl with
  | [v, x], _ =>
    have R1' : R G ρ1 σ ((x, q) :: (v, p) :: S) H1 := R1
    have R2 := R1'.frz e1
    have n2 : NoAl ((v, p) :: S) := fun u k m => (List.mem_cons.mp m).elim (fun z => by cases z; exact np k rfl) (n u k)
    have R3 := R2.store j (n2.at j) (fun _ z => by cases z)
    have R4 := R3.frz e2
    refine ⟨v, x, rfl, ?_⟩
    have z := e.nx _ _ _ (R4.store i (n.at i) (fun _ z => by cases z)) q1
    rwa [List.set_comm _ _ (Ne.symm ij)] at z
def kParS (ps : List PV) (i j : Nat) (ρ1 : Env) (Q : Env → Prop) : Prop := ∃ p q s t ρ2 ρ3, ps = [p, q] ∧ frz ρ1 q = some (t, ρ2) ∧ frz (ρ2.set j (some (.sh t))) p = some (s, ρ3) ∧ (∀ k, p ≠ .al k) ∧ Q (ρ3.set i (some (.sh s)))
theorem w_parS {L : LEnds} {ρ : Env} {l : LA} {i j : Nat} (h : l ρ fun ps ρ1 => kParS ps i j ρ1 L.nx) : lParS l i j L ρ := h
theorem w_kparS {ρ ρ2 ρ3 ρ4 : Env} {p q : PV} {i j : Nat} {Q : Env → Prop} {s t : T} (e1 : frz ρ q = some (t, ρ2)) (e2 : frz (ρ2.set j (some (.sh t))) p = some (s, ρ3)) (n : ∀ k, p ≠ .al k) (e3 : ρ3.set i (some (.sh s)) = ρ4) (h : Q ρ4) : kParS [p, q] i j ρ Q := ⟨p, q, s, t, ρ2, ρ3, rfl, e1, e2, n, by rw [e3]; exact h⟩
theorem cutT_map {α β : Type} (f : α → β) (xs : List α) (lo hi : Option Int) : cutT (xs.map f) lo hi = (cutT xs lo hi).map f := by
  unfold cutT
  rw [List.length_map, List.map_take, List.map_drop]
theorem cutT_sub {α : Type} (xs : List α) (lo hi : Option Int) : (cutT xs lo hi).Sublist xs := (List.take_sublist _ _).trans (List.drop_sublist _ _)
theorem repT_map {α β : Type} (f : α → β) (xs : List α) : ∀ n : Nat, (List.replicate n (xs.map f)).flatten = ((List.replicate n xs).flatten).map f
  | 0 => rfl
  | n + 1 => by rw [List.replicate_succ, List.replicate_succ, List.flatten_cons, List.flatten_cons, repT_map f xs n, List.map_append]
/-! ### lots: tuples of whole numbers -/
def lotT (l : List Int) : T := .tup (l.map T.int)
def lotD (l : List Int) : PyData := .tuple (l.map PyData.int)
theorem dats_ints (zs : List Int) : Dats (zs.map T.int) (zs.map PyData.int) := dats_map zs fun z _ => .int z
theorem lot_dat (l : List Int) : Dat (lotT l) (lotD l) := .tup (dats_ints l)
theorem alike_ints : ∀ a b : List Int, PySem.W.alikeAll (a.map PyData.int) (b.map PyData.int) = true
  | [], b => by cases b <;> simp [PySem.W.alikeAll]
  | _ :: _, [] => by simp [PySem.W.alikeAll]
  | x :: a, y :: b => by simp [PySem.W.alikeAll, PySem.W.alike, alike_ints a b]
theorem lots_alike (ls : List (List Int)) : PySem.W.AllAlike (ls.map lotD) := by
  intro d hd d' hd'
  obtain ⟨a, _, rfl⟩ := List.mem_map.mp hd
  obtain ⟨b, _, rfl⟩ := List.mem_map.mp hd'
  simpa [lotD, PySem.W.alike] using alike_ints a b
theorem depth_ints : ∀ a : List Int, PyData.depthAll (a.map PyData.int) ≤ 1
  | [] => by simp [PyData.depthAll]
  | x :: a => by
    simp only [List.map_cons, PyData.depthAll, PyData.depth]
    exact Nat.max_le.mpr ⟨by omega, depth_ints a⟩
theorem lot_depth (l : List Int) : (lotD l).depth ≤ 2 := by
  unfold lotD
  simp only [PyData.depth]
  have := depth_ints l
  omega
def lotA (b : V × List Int) : PyData := lotD b.2
theorem vlz_fst {vs : List V} {ls : List (List Int)} (h : vs.length = ls.length) : (vs.zip ls).map Prod.fst = vs := by rw [List.map_fst_zip]; omega
theorem vlz_snd {vs : List V} {ls : List (List Int)} (h : vs.length = ls.length) : (vs.zip ls).map Prod.snd = ls := by rw [List.map_snd_zip]; omega
theorem Dns.zipD {av : Addr → Prop} {H : Hp} : ∀ {vs : List V} {ls : List (List Int)}, Dns av H vs (ls.map lotT) → ∀ b ∈ vs.zip ls, Dn av H b.1 (lotT b.2)
  | [], [], _, b, hb => by cases hb
  | [], _ :: _, d, b, hb => by cases hb
  | _ :: _, [], d, b, hb => by cases hb
  | v :: vs, l :: ls, d, b, hb => by
    rw [List.map_cons] at d
    cases d with
    | cons h t =>
      rcases List.mem_cons.mp hb with rfl | hb
      · exact h
      · exact Dns.zipD t b hb
theorem dns_lots {av : Addr → Prop} {H : Hp} : ∀ {bs : List (V × List Int)}, (∀ b ∈ bs, Dn av H b.1 (lotT b.2)) → Dns av H (bs.map Prod.fst) ((bs.map Prod.snd).map lotT)
  | [], _ => .nil
  | b :: bs, h => .cons (h b List.mem_cons_self) (dns_lots fun c hc => h c (List.mem_cons_of_mem _ hc))
/-- sorted of lots, the first of which is empty -/
def vSort0 (ts : List T) (P : PV → Prop) : Prop := ∃ ls : List (List Int), ts = [.lst (ls.map lotT)] ∧ (∀ l r, ls = l :: r → l = []) ∧ ∀ ys : List (List Int), ys.Perm ls → P (.ow (.lst (ys.map lotT)))
theorem cls_sort0 : CallS (rSort0 K) vSort0 := by
  rintro av H xs ts Q P lv hx ⟨ls, rfl, h0, q⟩ k
  obtain ⟨x, rfl, hx1⟩ := hx.one
  obtain ⟨a, vs, rfl, e1, d⟩ := hx1.lst
  have hl : vs.length = ls.length := by rw [d.len, List.length_map]
  have zd := d.zipD
  have em : (vs.zip ls).map lotA = ls.map lotD := by
    have : (vs.zip ls).map lotA = ((vs.zip ls).map Prod.snd).map lotD := by rw [List.map_map]; rfl
    rw [this, vlz_snd hl]
  refine ⟨a, V × List Int, Prod.fst, lotA, vs.zip ls, rfl, by rw [vlz_fst hl]; exact SqL.of e1, fun b hb => (lot_dat b.2).dp (zd b hb), by rw [em]; exact lots_alike ls, ?_, fun b hb => Nat.le_trans (lot_depth _) (by decide), s_nu fun p hp => ?_⟩
  · rw [em]
    refine ⟨fun d hd => ?_, fun d r e => ?_⟩
    · obtain ⟨l, _, rfl⟩ := List.mem_map.mp hd
      exact ⟨_, rfl⟩
    · cases ls with
      | nil => cases e
      | cons l r' =>
        obtain ⟨rfl, rfl⟩ := List.cons.inj e
        rw [h0 _ _ rfl]
        rfl
  · have pm := List.mergeSort_perm (vs.zip ls) (PySem.W.dataLe false lotA)
    have ys := q (((vs.zip ls).mergeSort (PySem.W.dataLe false lotA)).map Prod.snd) (by have := pm.map Prod.snd; rwa [vlz_snd hl] at this)
    exact k _ _ _ ys (Nw.lst hp (dns_lots fun b hb => zd b (pm.mem_iff.mp hb)))
theorem v_sort0 {ls : List (List Int)} {P : PV → Prop} (h0 : ∀ l r, ls = l :: r → l = []) (q : ∀ ys : List (List Int), ys.Perm ls → P (.ow (.lst (ys.map lotT)))) : vSort0 [.lst (ls.map lotT)] P := ⟨ls, rfl, h0, q⟩
end
end LP
end
section
set_option maxRecDepth 100000
set_option maxHeartbeats 4000000
/-! ### a comprehension over the keys of a dict -/
namespace LP
open PySem L2 LH
/-- locked, or locked before -/
def tLk (t : TE) : TE := fun σ H Q => tLockE t σ H Q ∨ t σ H Q
theorem pe_lk {X : Cx} {e : Expr} {t : TE} (h : PE X e t) : PE X e (tLk t) := ⟨fun pins s σ H Q I q => q.elim (fun q => (pe_lock h).run pins s σ H Q I q) fun q => h.run pins s σ H Q I q⟩
def keyT : Key → T
  | .inl i => .int i
  | .inr z => .str z
theorem keyT_dn {av : Addr → Prop} {H : Hp} (k : Key) : Dn av H (kV k) (keyT k) := by
  cases k with
  | inl i => exact .int i
  | inr z => exact .str z
section
variable {G : Gh} {w : Addr → Option Loc} {ρ : Env} {σ : St} {S : Stk} {H H' : Hp}
/-- the comprehension goes on with d frozen -/
def lLcK (i : Nat) (lg : LG) (lt : LT) (le : LE) (vs : List Nat) : LE := fun ρ Q => (∃ (j : Nat) (t : T), ρ[j]? = some (some (PV.io t))) ∧ ∃ kt : List (Key × T), ρ[i]? = some (some (.sh (.dic kt))) ∧ hok ρ vs = true ∧ kt.length ≤ 1000000 ∧ ∃ I : Nat → List T → Env → Prop, I 0 [] (wipeE ρ vs) ∧
  (∀ k acc t ρ2, (kt.map fun kv => keyT kv.1)[k]? = some t → acc.length ≤ k → I k acc ρ2 → lg t ρ2 fun ρ3 => lt ρ3 fun b ρ4 => if b = true then le ρ4 fun p ρ5 => ∃ u ρ6, frz ρ5 p = some (u, ρ6) ∧ hok ρ6 vs = true ∧ I (k + 1) (acc ++ [u]) (wipeE ρ6 vs)
    else hok ρ4 vs = true ∧ I (k + 1) acc (wipeE ρ4 vs)) ∧ ∀ acc ρ2, I kt.length acc ρ2 → Q (.ow (.lst acc)) ρ2
/-- a dict, frozen or not -/
def Rd' (u : HO) (ks : List (Key × V)) : Prop := u = .dK ks ∨ ∃ x, u = .frz x (.dK ks)
def Gh.lk (G : Gh) (a : Addr) (o : Obj) (ks : List (Key × V)) : Gh := { G with H0 := upd G.H0 a (.frz o (.dK ks)) }
theorem lcK_go {i : Nat} {tg : TG} {lg : LG} {tt : TT} {lt : LT} {te : TE} {le : LE} {vs is : List Nat} {a : Addr} {o : Obj} {ks : List (Key × V)} {kt : List (Key × T)} {Q : VK} {P : PV → Env → Prop}
    (hg : SndG (G.lk a o ks) tg lg is) (hs : is.all (fun i => vs.elem i) = true) (gw : GW vs tg) (ht : SndT (G.lk a o ks) tt lt) (he : Snd (G.lk a o ks) te le) (na : a ∉ G.io) (e1 : ks.map Prod.fst = kt.map Prod.fst)
    (R1 : R (G.lk a o ks) ρ σ S H) (hv : σ[i]? = some (some (.ref a))) (hk : hok ρ vs = true) (hz : kt.length ≤ 1000000) {I : Nat → List T → Env → Prop} (i0 : I 0 [] (wipeE ρ vs))
    (turn : ∀ k acc t ρ2, (kt.map fun kv => keyT kv.1)[k]? = some t → acc.length ≤ k → I k acc ρ2 → lg t ρ2 fun ρ3 => lt ρ3 fun b ρ4 => if b = true then le ρ4 fun p ρ5 => ∃ u ρ6, frz ρ5 p = some (u, ρ6) ∧ hok ρ6 vs = true ∧ I (k + 1) (acc ++ [u]) (wipeE ρ6 vs)
      else hok ρ4 vs = true ∧ I (k + 1) acc (wipeE ρ4 vs)) (fin : ∀ acc ρ2, I kt.length acc ρ2 → P (.ow (.lst acc)) ρ2)
    (k : ∀ p ρ' v H', P p ρ' → H' a = some (.frz o (.dK ks)) → R (G.lk a o ks) ρ' σ ((v, p) :: S) H' → Q v H') : tLc (iKeys (tVar i)) tg tt te vs σ H Q := by
  have hfz : ∀ {ρ : Env} {σ : St} {S : Stk} {H : Hp}, R (G.lk a o ks) ρ σ S H → H a = some (.frz o (.dK ks)) := fun {ρ σ S H} ⟨w, r⟩ => r.frame a _ na upd_same
  have lenk : ks.length = kt.length := len_fst e1
  refine ⟨.ref a, hv, a, o, rfl, .inl ⟨ks, hfz R1, ?_⟩⟩
  intro Dl hD
  have RD : R (G.lk a o ks) (wipeE ρ vs) (wipe σ vs) ((.ref Dl, .ow (.lst [])) :: S) (upd H Dl (.lst [])) := by
    obtain ⟨w, R2⟩ := R1.hide hk
    exact R2.res (Nw.lst hD .nil)
  refine ⟨fun i m H => ∃ acc ρ0, R (G.lk a o ks) (wipeE ρ0 vs) (wipe σ vs) ((.ref Dl, .ow (.lst acc)) :: S) H ∧ I i acc (wipeE ρ0 vs) ∧ acc.length ≤ i ∧ i ≤ kt.length ∧ m = kt.length - i, ⟨_, [], ρ, RD, i0, Nat.le_refl _, Nat.zero_le _, rfl⟩, ?_⟩
  rintro j m H2 ⟨acc, ρ0, R2, hI, hacc, hil, rfl⟩
  rcases Nat.lt_or_eq_of_le hil with c | c
  · refine .inr ⟨⟨hfz R2, by rw [lenk]; exact c⟩, fun H' => ∃ acc ρ0, R (G.lk a o ks) (wipeE ρ0 vs) (wipe σ vs) ((.ref Dl, .ow (.lst acc)) :: S) H' ∧ I (j + 1) acc (wipeE ρ0 vs) ∧ acc.length ≤ j + 1, ?_, ?_⟩
    · rintro H' ⟨acc', ρ', R', hI', ha'⟩
      exact ⟨kt.length - (j + 1), by omega, acc', ρ', R', hI', ha', by omega, rfl⟩
    · rintro x H3 ⟨eH, kk, v, hkv, rfl⟩
      have eH : H3 = H2 := eH
      rw [eH]
      have htk : (kt.map fun kv => keyT kv.1)[j]? = some (keyT kk) := by
        have z : (ks.map Prod.fst)[j]? = some kk := by rw [List.getElem?_map, hkv]; rfl
        rw [e1, List.getElem?_map] at z
        rw [List.getElem?_map]
        cases q : kt[j]? with
        | none => rw [q] at z; cases z
        | some y => rw [q] at z; cases z; rfl
      have R3 : R (G.lk a o ks) (wipeE ρ0 vs) (wipe σ vs) ((kV kk, .sh (keyT kk)) :: (.ref Dl, .ow (.lst acc)) :: S) H2 := R2.leaf fun _ _ => keyT_dn kk
      refine gw (kV kk) (wipe σ vs) H2 (fun σ2 H2 => wipe σ2 vs = wipe (wipe σ vs) vs → tt σ2 H2 fun b H3 => if b = true then te σ2 H3 fun y H4 => ∃ accV, H4 Dl = some (.lst accV) ∧ accV.length < sizeLine ∧ (∃ acc ρ0, R (G.lk a o ks) (wipeE ρ0 vs) (wipe σ vs) ((.ref Dl, .ow (.lst acc)) :: S) (upd H4 Dl (.lst (accV ++ [y]))) ∧ I (j + 1) acc (wipeE ρ0 vs) ∧ acc.length ≤ j + 1) else ∃ acc ρ0, R (G.lk a o ks) (wipeE ρ0 vs) (wipe σ vs) ((.ref Dl, .ow (.lst acc)) :: S) H3 ∧ I (j + 1) acc (wipeE ρ0 vs) ∧ acc.length ≤ j + 1) _ (fun σ3 H3 hw z => ⟨hw.trans (wipe_wipe vs), z hw⟩) ?_
      refine hg ((.ref Dl, .ow (.lst acc)) :: S) _ (wipe σ vs) H2 _ _ _ _ (als_ok R2 hs) R3 (turn j acc _ _ htk hacc hI) fun ρ3 σ3 H3 q3 R3 hw => ?_
      rw [wipe_wipe] at hw
      refine ht ρ3 σ3 _ H3 _ _ R3 q3 fun b ρ4 H4 q4 R4 => ?_
      cases b with
      | false =>
        obtain ⟨h1, h2⟩ := q4
        have R5 := R4.hide h1
        rw [hw] at R5
        exact ⟨acc, ρ4, R5, h2, by omega⟩
      | true =>
        refine he ρ4 σ3 _ H4 _ _ R4 q4 fun p ρ5 y H5 q5 R5 => ?_
        obtain ⟨u, ρ6, e6, h6, h7⟩ := q5
        have R6 := (R5.frz e6)
        have R7 := R6.hide h6
        rw [hw] at R7
        obtain ⟨w, R7⟩ := R7
        have dy : Dn ((G.lk a o ks).av w) H5 y u := R7.top
        obtain ⟨a', F, ea, ⟨rfl, accV, eA, dA⟩, f⟩ := R7.stk.2.1
        cases ea
        have fa := f Dl List.mem_cons_self
        have ava : (G.lk a o ks).av w Dl := .inr ⟨_, fa⟩
        refine ⟨accV, eA, by rw [dA.len, sizeLine_eq]; omega, acc ++ [u], ρ6, ⟨w, R7.pop.updTop (t' := .lst (acc ++ [u])) fa (fun _ z => by cases z) ⟨rfl, _, upd_same, (dA.app (.cons dy .nil)).upd' ava⟩⟩, h7, by simp; omega⟩
  · subst c
    refine .inl ⟨⟨hfz R2, by rw [lenk]; exact Nat.le_refl _⟩, ?_⟩
    exact k _ _ _ _ (fin acc _ hI) (hfz R2) R2.unhide
theorem sn_lcK {i : Nat} {tg : TG} {lg : LG} {tt : TT} {lt : LT} {te : TE} {le : LE} {vs is : List Nat} (hg : ∀ G, SndG G tg lg is) (hs : is.all (fun i => vs.elem i) = true) (gw : GW vs tg) (ht : ∀ G, SndT G tt lt) (he : ∀ G, Snd G te le) :
    Snd G (tLk (tLc (iKeys (tVar i)) tg tt te vs)) (lLcK i lg lt le vs) := by
  intro ρ σ S H Q P r q k
  obtain ⟨⟨j, t, hio⟩, kt, hi, hk, hz, I, i0, turn, fin⟩ := q
  obtain ⟨w, r⟩ := r
  obtain ⟨v, hv, d⟩ := r.at_slot hi
  have d : Dn (G.av w) H v (.dic kt) := d
  cases d with
  | @dic a ks _ nav ra e1 d =>
    have nio : a ∉ G.io := fun m => by
      obtain ⟨_, _, z⟩ := r.at_slot hio
      exact nav (.inr ⟨_, z.2.2 a m⟩)
    have nw : ∀ b l, w b = some l → b ≠ a := fun b l e z => nav (.inr ⟨l, z ▸ e⟩)
    have nA : ∀ b, G.AV b → b ≠ a := fun b e z => nav (.inl (z ▸ e))
    have into : ∀ (o : Obj) (H1 : Hp), H1 a = some (.frz o (.dK ks)) → (∀ b, b ≠ a → H1 b = H b) → RO (G.lk a o ks) w ρ σ S H1 := fun o H1 h1 h2 => by
      refine r.lk (fun b u nb e n => ?_) (fun b us nb e => ?_) (fun b l e => h2 b (nw b l e)) (fun b u nb e => ?_) (fun b l e => ?_) fun b e => ?_
      · by_cases c : b = a
        · subst c
          rcases ra with ra | ⟨x, ra⟩
          · rw [ra] at e; cases e; exact (n.1 _ rfl).elim
          · rw [ra] at e; cases e; exact (n.2 _ _ rfl).elim
        · rw [h2 b c]; exact e
      · by_cases c : b = a
        · subst c
          have : us = ks := by
            rcases ra with ra | ⟨x, ra⟩ <;> rcases e with e | ⟨y, e⟩ <;> (rw [ra] at e; cases e) <;> rfl
          subst this
          exact .inr ⟨o, h1⟩
        · exact e.imp (fun e => by rw [h2 b c]; exact e) fun ⟨y, e⟩ => ⟨y, by rw [h2 b c]; exact e⟩
      · by_cases c : b = a
        · subst c; rw [upd_same] at e; cases e; exact h1
        · rw [upd_ne c] at e; rw [h2 b c]; exact r.frame b u nb e
      · rw [upd_ne (nw b l e)]; exact (r.own b l e).2.1
      · obtain ⟨u, h3, h4⟩ := (r.avs b e).2
        exact ⟨u, by rw [upd_ne (nA b e)]; exact h3, h4⟩
    have back : ∀ (o : Obj) (H2 : Hp) (u : HO) (ρ' : Env) (S' : Stk) (H1 : Hp), Rd' u ks → H1 a = some (.frz o (.dK ks)) → H a = some u → R (G.lk a o ks) ρ' σ S' H1 → H2 = upd H1 a u → R G ρ' σ S' H2 := fun o H2 u ρ' S' H1 hu h1 hHa ⟨w', r'⟩ e2 => by
      subst e2
      have nw' : ∀ b l, w' b = some l → b ≠ a := fun b l e z => by
        subst z
        rcases (r'.own b l e).2.1 with q | q
        · rw [show (G.lk b o ks).H0 b = some (.frz o (.dK ks)) from upd_same] at q; cases q
        · exact nio q
      have r2 := r'.lk (h0 := G.H0) (H' := upd H1 a u) (fun b x nb e n => ?_) (fun b us nb e => ?_) (fun b l e => upd_ne (nw' b l e)) (fun b x nb e => ?_) (fun b l e => ?_) fun b e => (r.avs b e).2
      · exact ⟨w', r2⟩
      · by_cases c : b = a
        · subst c; rw [h1] at e; cases e; exact (n.2 _ _ rfl).elim
        · rw [upd_ne c]; exact e
      · by_cases c : b = a
        · subst c
          have : us = ks := by rcases e with e | ⟨y, e⟩ <;> (rw [h1] at e; cases e) <;> rfl
          subst this
          rcases hu with rfl | ⟨x, rfl⟩
          · exact .inl upd_same
          · exact .inr ⟨x, upd_same⟩
        · exact e.imp (fun e => by rw [upd_ne c]; exact e) fun ⟨y, e⟩ => ⟨y, by rw [upd_ne c]; exact e⟩
      · by_cases c : b = a
        · subst c
          have := r.frame b x nb e
          rw [hHa] at this; cases this
          exact upd_same
        · rw [upd_ne c]
          exact r'.frame b x nb (show (G.lk a o ks).H0 b = some x by rw [show (G.lk a o ks).H0 b = G.H0 b from upd_ne c]; exact e)
      · have z := (r'.own b l e).2.1
        rw [show (G.lk a o ks).H0 b = G.H0 b from upd_ne (nw' b l e)] at z
        exact z
    rcases ra with ra | ⟨o, ra⟩
    · refine .inl ⟨a, .dK ks, ra, trivial, fun o => ?_⟩
      exact lcK_go (hg _) hs gw (ht _) (he _) nio e1 ⟨w, into o _ upd_same fun b c => upd_ne c⟩ hv hk hz i0 turn fin fun p ρ' v H' hP hfz R' => ⟨hfz, k p ρ' v _ hP (back o _ _ ρ' _ H' (.inl rfl) hfz ra R' rfl)⟩
    · refine .inr ?_
      refine lcK_go (hg _) hs gw (ht _) (he _) nio e1 ⟨w, into o H ra fun b c => rfl⟩ hv hk hz i0 turn fin fun p ρ' v H' hP hfz R' => k p ρ' v _ hP (back o _ _ ρ' _ H' (.inr ⟨o, rfl⟩) hfz ra R' ?_)
      funext b
      by_cases c : b = a
      · subst c; rw [upd_same]; exact hfz
      · rw [upd_ne c]
end
end LP
end
section
set_option maxRecDepth 100000
set_option maxHeartbeats 4000000
/-! ### repr of data of any make, with dicts in it -/
namespace PyProof.Rows
open PySem PySem.Calls
section
variable (h₀ : Heap)
mutual
inductive Sh : Value → PyData → Prop
  | non : Sh .none .none
  | bl (b : Bool) : Sh (.bool b) (.bool b)
  | int (i : Int) (t : Tok) : Sh (.int i t) (.int i)
  | str (z : Str) (t : Tok) : Sh (.str z t) (.str z)
  | lst {a : Addr} {o : Obj} {vs : Array Value} {n : Nat} {ds : List PyData} (e : h₀.get? a = some o) (c : o.cls = .type "list") (q : o.data = .seq vs n) (r : Shs vs.toList ds) : Sh (.ref a) (.list ds)
  | tup {a : Addr} {o : Obj} {vs : Array Value} {n : Nat} {ds : List PyData} (e : h₀.get? a = some o) (c : o.cls = .type "tuple") (q : o.data = .seq vs n) (r : Shs vs.toList ds) : Sh (.ref a) (.tuple ds)
  | dic {a : Addr} {o : Obj} {es : Array DictEntry} {n : Nat} {ds : List (PyData × PyData)} (e : h₀.get? a = some o) (c : o.cls = .type "dict") (q : o.data = .dict es n) (m : (a == sysModules) = false) (r : Shs (es.toList.map (·.key)) (ds.map (·.1))) (r2 : Shs (es.toList.map (·.val)) (ds.map (·.2))) : Sh (.ref a) (.dict ds)
inductive Shs : List Value → List PyData → Prop
  | nil : Shs [] []
  | cons {v : Value} {d : PyData} {vs : List Value} {ds : List PyData} (x : Sh v d) (y : Shs vs ds) : Shs (v :: vs) (d :: ds)
end
end
section
variable {h₀ : Heap}
mutual
theorem Sh.rd : ∀ {v : Value} {d : PyData}, Sh h₀ v d → ∃ as, Reads h₀ v d as
  | _, _, .non => ⟨_, .none⟩
  | _, _, .bl b => ⟨_, .bool b⟩
  | _, _, .int i t => ⟨_, .int i t⟩
  | _, _, .str z t => ⟨_, .str z t⟩
  | _, _, .lst e c q r => let ⟨_, x⟩ := Shs.rd r; ⟨_, .list e c q x⟩
  | _, _, .tup e c q r => let ⟨_, x⟩ := Shs.rd r; ⟨_, .tuple e c q x⟩
  | _, _, .dic e c q _ r r2 => let ⟨_, x⟩ := Shs.rd r; let ⟨_, y⟩ := Shs.rd r2; ⟨_, .dict e c q x y⟩
theorem Shs.rd : ∀ {vs : List Value} {ds : List PyData}, Shs h₀ vs ds → ∃ as, ReadsAll h₀ vs ds as
  | _, _, .nil => ⟨_, .nil⟩
  | _, _, .cons x y => let ⟨_, p⟩ := Sh.rd x; let ⟨_, q⟩ := Shs.rd y; ⟨_, .cons p q⟩
end
section
variable {prog : Program} {w : World}
def Fits (ds : List PyData) : Prop := ∀ t ∈ PyData.shownAll ds, t.length ≤ sizeLine
theorem dict_fits {ds : List (PyData × PyData)} (z : (dictText (PyData.shownKv ds)).length ≤ sizeLine) : Fits (ds.map (·.1)) ∧ Fits (ds.map (·.2)) := by
  constructor
  · intro t ht
    obtain ⟨p, hp, hl⟩ := PyData.shownKv_key_le ds t ht
    have := dictText_mem_le hp
    omega
  · intro t ht
    obtain ⟨p, hp, hl⟩ := PyData.shownKv_val_le ds t ht
    have := dictText_mem_le hp
    omega
mutual
theorem Sh.rp : ∀ {v : Value} {d : PyData}, Sh h₀ v d → d.showable = true → d.shown.length ≤ sizeLine → ∃ bs, ReadAtMost h₀ d.depth bs ∧ ReprK prog w bs h₀ d.depth v d.shown
  | _, _, .non, _, _ => ⟨[], nofun, by simp only [PyData.shown]; exact .of_is ReprIs.none _ _ _⟩
  | _, _, .bl b, _, _ => ⟨[], nofun, by simp only [PyData.shown]; exact .of_is (ReprIs.bool b) _ _ _⟩
  | _, _, .int i t, s, _ => ⟨[], nofun, by simp only [PyData.shown]; exact .of_is (ReprIs.int t (by simpa only [PyData.showable, decide_eq_true_eq] using s)) _ _ _⟩
  | _, _, .str x t, _, z => ⟨[], nofun, by simp only [PyData.shown] at z ⊢; exact .of_is (ReprIs.str x t z) _ _ _⟩
  | _, _, .lst (a := a) (vs := vs) (ds := xs) h1 h2 h3 h4, s, z => by
    simp only [PyData.shown] at z
    obtain ⟨bs, hb, hk⟩ := Shs.rp h4 (by simpa only [PyData.showable] using s) fun t ht => Nat.le_trans (listText_mem_le ht) z
    obtain ⟨as, r4⟩ := h4.rd
    have r : Reads h₀ (.ref a) (.list xs) (a :: as) := .list h1 h2 h3 r4
    have deeper : PyData.depthAll xs < (PyData.list xs).depth := by simp only [PyData.depth]; omega
    have out := not_mem_of_deeper r deeper hb
    refine ⟨a :: bs, ReadAtMost.cons r (Nat.le_of_lt deeper) hb, ?_⟩
    simp only [PyData.depth, PyData.shown]
    obtain ⟨l⟩ := vs
    cases l with
    | nil =>
      have h4' : Shs h₀ [] xs := h4
      cases h4'
      rw [PyData.shownAll, listText_nil]
      exact ReprK.listEmpty h1 h2 h3
    | cons x l => exact ReprK.list h1 h2 h3 out (by simpa using hk.length_eq) fun i y e => hk.item i y (by simpa using e)
  | _, _, .tup (a := a) (ds := xs) h1 h2 h3 h4, s, z => by
    simp only [PyData.shown] at z
    obtain ⟨bs, hb, hk⟩ := Shs.rp h4 (by simpa only [PyData.showable] using s) fun t ht => Nat.le_trans (tupleText_mem_le ht) z
    obtain ⟨as, r4⟩ := h4.rd
    have r : Reads h₀ (.ref a) (.tuple xs) as := .tuple h1 h2 h3 r4
    have deeper : PyData.depthAll xs < (PyData.tuple xs).depth := by simp only [PyData.depth]; omega
    refine ⟨a :: bs, ReadAtMost.cons r (Nat.le_of_lt deeper) hb, ?_⟩
    simp only [PyData.depth, PyData.shown]
    exact ReprK.tuple h1 h2 h3 (not_mem_of_deeper r deeper hb) hk
  | _, _, .dic (a := a) (es := es) (ds := ds) h1 h2 h3 m h4 h5, s, z => by
    simp only [PyData.shown] at z
    obtain ⟨s1, s2⟩ := PyData.showableKv_split ds (by simpa only [PyData.showable] using s)
    obtain ⟨f1, f2⟩ := dict_fits z
    obtain ⟨b1, hb1, k1⟩ := Shs.rp h4 s1 f1
    obtain ⟨b2, hb2, k2⟩ := Shs.rp h5 s2 f2
    obtain ⟨as1, r4⟩ := h4.rd
    obtain ⟨as2, r5⟩ := h5.rd
    have r : Reads h₀ (.ref a) (.dict ds) (a :: as1 ++ as2) := .dict h1 h2 h3 r4 r5
    have l1 := PyData.depthAll_keys_le ds
    have l2 := PyData.depthAll_vals_le ds
    have deeper : PyData.depthKv ds < (PyData.dict ds).depth := by simp only [PyData.depth]; omega
    have both : ReadAtMost h₀ (PyData.depthKv ds) (b1 ++ b2) := .append (hb1.mono l1) (hb2.mono l2)
    refine ⟨a :: (b1 ++ b2), ReadAtMost.cons r (Nat.le_of_lt deeper) both, ?_⟩
    simp only [PyData.depth, PyData.shown, PyData.shownKv_eq]
    refine ReprK.dict h1 h2 h3 m (not_mem_of_deeper r deeper both) (ReprEntriesK.of_two es.toList _ _ (k1.more_le (fun b hb => ?_) l1) (k2.more_le (fun b hb => ?_) l2))
    · exact List.mem_append_left _ hb
    · exact List.mem_append_right _ hb
theorem Shs.rp : ∀ {vs : List Value} {ds : List PyData}, Shs h₀ vs ds → PyData.showableAll ds = true → Fits ds → ∃ bs, ReadAtMost h₀ (PyData.depthAll ds) bs ∧ ReprAllK prog w bs h₀ (PyData.depthAll ds) vs (PyData.shownAll ds)
  | _, _, .nil, _, _ => ⟨[], nofun, by rw [PyData.shownAll]; exact .nil⟩
  | _, _, .cons (d := d) (ds := ds) r rs, s, z => by
    simp only [PyData.showableAll, Bool.and_eq_true] at s
    obtain ⟨b1, hb1, k1⟩ := Sh.rp r s.1 (z _ (by rw [PyData.shownAll]; exact List.mem_cons_self))
    obtain ⟨b2, hb2, k2⟩ := Shs.rp rs s.2 fun t ht => z t (by rw [PyData.shownAll]; exact List.mem_cons_of_mem _ ht)
    have m1 : d.depth ≤ PyData.depthAll (d :: ds) := by simp only [PyData.depthAll]; exact Nat.le_max_left _ _
    have m2 : PyData.depthAll ds ≤ PyData.depthAll (d :: ds) := by simp only [PyData.depthAll]; exact Nat.le_max_right _ _
    refine ⟨b1 ++ b2, .append (hb1.mono m1) (hb2.mono m2), ?_⟩
    rw [PyData.shownAll]
    refine .cons ((k1.more fun b hb => ?_).level_le m1) (k2.more_le (fun b hb => ?_) m2)
    · exact List.mem_append_left _ hb
    · exact List.mem_append_right _ hb
end
theorem Sh.shows {a : Addr} {d : PyData} (r : Sh h₀ (.ref a) d) (s : d.showable = true) (z : d.shown.length ≤ sizeLine) : ∃ T idr, ShowsBy prog w h₀ a d T idr := by
  cases r with
  | @lst _ o vs n xs h1 h2 h3 h4 =>
    simp only [PyData.shown] at z
    obtain ⟨bs, hb, hk⟩ := Shs.rp (prog := prog) (w := w) h4 (by simpa only [PyData.showable] using s) fun t ht => Nat.le_trans (listText_mem_le ht) z
    obtain ⟨as, r4⟩ := h4.rd
    have deeper : PyData.depthAll xs < (PyData.list xs).depth := by simp only [PyData.depth]; omega
    have out := not_mem_of_deeper (.list h1 h2 h3 r4) deeper hb
    refine ⟨"list", "list.__repr__", F.slot_list_repr.toG, F.slot_list_str, F.slot_list_format, fun s k => ⟨o, k _ _ h1, h2⟩, fun A E s9 Q hg hu k hQ => ?_⟩
    simp only [PyData.depth] at hu
    simp only [PyData.shown] at hQ
    obtain ⟨l⟩ := vs
    cases l with
    | nil =>
      have h4' : Shs h₀ [] xs := h4
      cases h4'
      rw [PyData.shownAll, listText_nil] at hQ
      exact call_list_repr_empty ⟨o, k _ _ h1, h2⟩ (k _ _ h1) h3 (hQ s9.heap _ _ fun _ _ e => e)
    | cons x l => exact call_list_reprK h1 h2 h3 out (by simpa using hk.length_eq) (fun i y e => hk.item i y (by simpa using e)) hg (fun b _ => Clear.nil b) hu k hQ z
  | @tup _ o vs n xs h1 h2 h3 h4 =>
    simp only [PyData.shown] at z
    obtain ⟨bs, hb, hk⟩ := Shs.rp (prog := prog) (w := w) h4 (by simpa only [PyData.showable] using s) fun t ht => Nat.le_trans (tupleText_mem_le ht) z
    obtain ⟨as, r4⟩ := h4.rd
    have deeper : PyData.depthAll xs < (PyData.tuple xs).depth := by simp only [PyData.depth]; omega
    have out := not_mem_of_deeper (.tuple h1 h2 h3 r4) deeper hb
    refine ⟨"tuple", "tuple.__repr__", F.slot_tuple_repr, F.slot_tuple_str, F.slot_tuple_format, fun s k => ⟨o, k _ _ h1, h2⟩, fun A E s9 Q hg hu k hQ => ?_⟩
    simp only [PyData.depth] at hu
    simp only [PyData.shown] at hQ
    exact call_tuple_reprK h1 h2 h3 out hk hg (fun b _ => Clear.nil b) hu k hQ z
  | @dic _ o es n ds h1 h2 h3 m h4 h5 =>
    simp only [PyData.shown] at z
    obtain ⟨s1, s2⟩ := PyData.showableKv_split ds (by simpa only [PyData.showable] using s)
    obtain ⟨f1, f2⟩ := dict_fits z
    obtain ⟨b1, hb1, k1⟩ := Shs.rp (prog := prog) (w := w) h4 s1 f1
    obtain ⟨b2, hb2, k2⟩ := Shs.rp (prog := prog) (w := w) h5 s2 f2
    obtain ⟨as1, r4⟩ := h4.rd
    obtain ⟨as2, r5⟩ := h5.rd
    have l1 := PyData.depthAll_keys_le ds
    have l2 := PyData.depthAll_vals_le ds
    have deeper : PyData.depthKv ds < (PyData.dict ds).depth := by simp only [PyData.depth]; omega
    have both : ReadAtMost h₀ (PyData.depthKv ds) (b1 ++ b2) := .append (hb1.mono l1) (hb2.mono l2)
    have out := not_mem_of_deeper (.dict h1 h2 h3 r4 r5) deeper both
    refine ⟨"dict", "dict.__repr__", F.slot_dict_repr, F.slot_dict_str, F.slot_dict_format, fun s k => ⟨o, k _ _ h1, h2⟩, fun A E s9 Q hg hu k hQ => ?_⟩
    simp only [PyData.depth] at hu
    simp only [PyData.shown, PyData.shownKv_eq] at hQ
    refine call_dict_reprK h1 h2 h3 m out (ReprEntriesK.of_two es.toList _ _ (k1.more_le (fun b hb => ?_) l1) (k2.more_le (fun b hb => ?_) l2)) hg (fun b _ => Clear.nil b) hu k hQ (by rw [← PyData.shownKv_eq]; exact z)
    · exact List.mem_append_left _ hb
    · exact List.mem_append_right _ hb
theorem Sh.call {a : Addr} {d : PyData} {A : Around} {E : Value → Shared → Prop} {s : Shared} {Q : Value → Shared → Prop} (r : Sh s.heap (.ref a) d) (hs : d.showable = true) (z : d.shown.length ≤ sizeLine) (hg : A.guards = some []) (hu : A.units + (d.depth + 1) < cLine)
    (hQ : ∀ h' u tk, (∀ b o, s.heap.get? b = some o → h'.get? b = some o) → Q (.str d.shown u) { s with heap := h', toks := tk }) : wpAny (model prog w) A (call (.builtin "repr") [.ref a]) Q E s := by
  obtain ⟨T, idr, S⟩ := Sh.shows (prog := prog) (w := w) r hs z
  refine call_repr_slot (by omega) (S.typeIs s fun _ _ e => e) S.slotRepr (S.call A.in1 E s _ hg ?_ (fun _ _ e => e) fun h' u tk k => ⟨_, _, rfl, hQ h' u tk k⟩)
  show A.units + 1 + d.depth < cLine
  omega
end
end
end PyProof.Rows
end
section
set_option maxRecDepth 100000
set_option maxHeartbeats 4000000
namespace LH
open PySem L2 LP PyProof.Rows
def keyD : Key → PyData
  | .inl i => .int i
  | .inr z => .str z
mutual
inductive Lw (K : PySem.W.Frag) (H : Hp) : V → PyData → Prop
  | non : Lw K H .non .none
  | bl (b : Bool) : Lw K H (.bl b) (.bool b)
  | int (i : Int) : Lw K H (.int i) (.int i)
  | str (z : Str) : Lw K H (.str z) (.str z)
  | lst {a : Addr} {vs : List V} {ds : List PyData} : SqL K H a vs → Lws K H vs ds → Lw K H (.ref a) (.list ds)
  | tup {a : Addr} {vs : List V} {ds : List PyData} : SqT K H a vs → Lws K H vs ds → Lw K H (.ref a) (.tuple ds)
  | dic {a : Addr} {ks : List (Key × V)} {ds : List (PyData × PyData)} : Rd H a (.dK ks) → (ks.map fun kv => keyD kv.1) = ds.map Prod.fst → Lws K H (ks.map Prod.snd) (ds.map Prod.snd) → Lw K H (.ref a) (.dict ds)
inductive Lws (K : PySem.W.Frag) (H : Hp) : List V → List PyData → Prop
  | nil : Lws K H [] []
  | cons {v : V} {d : PyData} {vs : List V} {ds : List PyData} : Lw K H v d → Lws K H vs ds → Lws K H (v :: vs) (d :: ds)
end
theorem key_sh {h : Heap} {k : Key} {v : Value} (e : keyIs k v = true) : Sh h v (keyD k) := by
  rcases keyIs_shape e with ⟨i, t, rfl, rfl⟩ | ⟨z, t, rfl, rfl⟩
  · exact .int i t
  · exact .str z t
theorem keys_sh {h : Heap} {P : Program} {w : World} : ∀ {es : List DictEntry} {vs : List (Key × Value)}, Pairs (mixKind P w) es vs → Shs h (es.map (·.key)) (vs.map fun kv => keyD kv.1)
  | _, _, .nil => .nil
  | _, _, .cons h1 _ r => .cons (key_sh h1) (keys_sh r)
theorem vals_of {P : Program} {w : World} : ∀ {es : List DictEntry} {ks : List (Key × V)} {vs : List (Key × Value)}, Pairs (mixKind P w) es vs → KV ks vs → (ks.map fun kv => keyD kv.1) = (vs.map fun kv => keyD kv.1) ∧ Vals (ks.map Prod.snd) (es.map (·.val))
  | _, ks, _, .nil, r => by cases r; exact ⟨rfl, .nil⟩
  | _, ks, _, .cons h1 h2 p, r => by
    cases r with
    | cons z r =>
      obtain ⟨e1, e2⟩ := vals_of p r
      refine ⟨?_, .cons (by have q := z.2; rw [← h2] at q; exact q) e2⟩
      rw [List.map_cons, List.map_cons, e1, z.1]
section
variable {X : Cx} {pins : List (Addr × Obj)} {σ : L2.St} {H : Hp} {s : Shared}
mutual
theorem Lw.sh (I : Inv X pins σ H s) : ∀ {d : PyData} {v : V} {u : Value}, Lw X.K H v d → RelV v u → Sh s.heap u d
  | _, _, _, .non, r => by cases r; exact .non
  | _, _, _, .bl b, r => by cases r; exact .bl b
  | _, _, _, .int i, r => by obtain ⟨t, rfl⟩ := r; exact .int i t
  | _, _, _, .str z, r => by obtain ⟨t, rfl⟩ := r; exact .str z t
  | _, _, _, .lst hs ha, r => by
    cases r
    obtain ⟨its, rv, ⟨o, m, ho, hc, _, hd⟩, _⟩ := I.list hs
    exact .lst ho hc hd (Lws.sh I ha rv)
  | _, _, _, .tup hs ha, r => by
    cases r
    obtain ⟨its, rv, ⟨o, ho, hc, n, hd⟩, _⟩ := I.tuple hs
    exact .tup ho hc hd (Lws.sh I ha rv)
  | _, _, _, .dic hr hk ha, r => by
    cases r
    obtain ⟨_, hS, vs, rel, o, es, ep, h1, h2, h3, h4, h5, h6⟩ := dk_rd I.hok hr
    obtain ⟨e1, e2⟩ := vals_of h5 rel
    refine .dic h1 h2.1 h3 hS ?_ (Lws.sh I ha e2)
    rw [← hk, e1]
    exact keys_sh h5
theorem Lws.sh (I : Inv X pins σ H s) : ∀ {ds : List PyData} {vs : List V} {its : List Value}, Lws X.K H vs ds → Vals vs its → Shs s.heap its ds
  | _, _, _, .nil, r => by cases r; exact .nil
  | _, _, _, .cons h hs, r => by
    cases r with
    | cons r1 r2 => exact .cons (Lw.sh I h r1) (Lws.sh I hs r2)
end
end
def rReprW (K : PySem.W.Frag) : List V → Hp → VK → Prop := fun xs H Q => ∃ x d, xs = [x] ∧ Lw K H x d ∧ d.showable = true ∧ d.shown.length ≤ 16777216 ∧ d.depth ≤ 20 ∧ Q (.str d.shown) H
theorem call_reprW {X : Cx} (hu : X.A.units + 64 < cLine) (hg : X.A.guards = some []) : CallR X (.builtin "repr") (rReprW X.K) := by
  intro pins s σ H xs us Q I r h
  obtain ⟨x, d, rfl, hd, sh, sz, dp, q⟩ := h
  obtain ⟨u, rfl, ru⟩ := one_val r
  have sd := hd.sh I ru
  have sz' : d.shown.length ≤ sizeLine := by rw [sizeLine_eq]; exact sz
  cases hd with
  | non => cases ru; exact PySem.P.repr_of_none ⟨.str _, H, I.tok _, ⟨_, rfl⟩, q⟩
  | bl b => cases ru; exact PySem.P.repr_of_bool ⟨.str _, H, I.tok _, ⟨_, rfl⟩, q⟩
  | int i =>
    obtain ⟨t, rfl⟩ := ru
    simp only [PyData.showable, decide_eq_true_eq] at sh
    exact PySem.P.repr_of_int sh ⟨.str _, H, I.tok _, ⟨_, rfl⟩, q⟩
  | str z =>
    obtain ⟨t, rfl⟩ := ru
    exact PySem.P.repr_of_str ⟨.str _, H, I.tok _, ⟨_, rfl⟩, q⟩ sz'
  | lst h1 h2 => cases ru; exact sd.call sh sz' hg (by omega) fun h' u tk hk => ⟨.str _, H, I.kept (t' := tk) hk, ⟨_, rfl⟩, q⟩
  | tup h1 h2 => cases ru; exact sd.call sh sz' hg (by omega) fun h' u tk hk => ⟨.str _, H, I.kept (t' := tk) hk, ⟨_, rfl⟩, q⟩
  | dic h1 h2 h3 => cases ru; exact sd.call sh sz' hg (by omega) fun h' u tk hk => ⟨.str _, H, I.kept (t' := tk) hk, ⟨_, rfl⟩, q⟩
theorem call_reprWK {X : Cx} {K : PySem.W.Frag} (h : X.K = K) (hu : X.A.units + 64 < cLine) (hg : X.A.guards = some []) : CallR X (.builtin "repr") (rReprW K) := h ▸ call_reprW hu hg
end LH
namespace LP
open PySem L2 LH PyProof.Rows
mutual
/-- the tree is data -/
inductive Daw : T → PyData → Prop
  | non : Daw .non .none
  | bl (b : Bool) : Daw (.bl b) (.bool b)
  | int (i : Int) : Daw (.int i) (.int i)
  | str (z : Str) : Daw (.str z) (.str z)
  | lst {ts : List T} {ds : List PyData} : Daws ts ds → Daw (.lst ts) (.list ds)
  | tup {ts : List T} {ds : List PyData} : Daws ts ds → Daw (.tup ts) (.tuple ds)
  | dic {kt : List (Key × T)} {ds : List (PyData × PyData)} : (kt.map fun kv => keyD kv.1) = ds.map Prod.fst → Daws (kt.map Prod.snd) (ds.map Prod.snd) → Daw (.dic kt) (.dict ds)
inductive Daws : List T → List PyData → Prop
  | nil : Daws [] []
  | cons {t : T} {ts : List T} {d : PyData} {ds : List PyData} : Daw t d → Daws ts ds → Daws (t :: ts) (d :: ds)
end
section
variable {K : PySem.W.Frag} {av : Addr → Prop} {H : Hp}
theorem fst_keyD {α β : Type} {ks : List (Key × α)} {kt : List (Key × β)} (h : ks.map Prod.fst = kt.map Prod.fst) : (ks.map fun kv => keyD kv.1) = kt.map fun kv => keyD kv.1 := by
  have := congrArg (List.map keyD) h
  rwa [List.map_map, List.map_map] at this
mutual
theorem Daw.lw : ∀ {t : T} {d : PyData} {v : V}, Daw t d → Dn av H v t → Lw K H v d
  | _, _, _, .non, h => by cases h; exact .non
  | _, _, _, .bl b, h => by cases h; exact .bl b
  | _, _, _, .int b, h => by cases h; exact .int b
  | _, _, _, .str b, h => by cases h; exact .str b
  | _, _, _, .lst ds, h => by cases h with | lst _ e d => exact .lst (SqL.of e) (Daws.lw ds d)
  | _, _, _, .tup ds, h => by cases h with | tup _ e d => exact .tup (SqT.of e) (Daws.lw ds d)
  | _, _, _, .dic k ds, h => by cases h with | dic _ e k2 d => exact .dic e (by rw [fst_keyD k2]; exact k) (Daws.lw ds d)
theorem Daws.lw : ∀ {ts : List T} {ds : List PyData} {vs : List V}, Daws ts ds → Dns av H vs ts → Lws K H vs ds
  | _, _, _, .nil, h => by cases h; exact .nil
  | _, _, _, .cons d ds, h => by cases h with | cons h hs => exact .cons (Daw.lw d h) (Daws.lw ds hs)
end
theorem Daw.rk {t : T} {d : PyData} {v : V} (h : Daw t d) (r : Rk av H v t) : Lw K H v d := by
  cases h with
  | non => rw [r.non]; exact .non
  | bl b => rw [r.bl]; exact .bl b
  | int b => rw [r.int]; exact .int b
  | str b => rw [r.str]; exact .str b
  | lst ds => obtain ⟨a, vs, rfl, e, d⟩ := r.lst; exact .lst (SqL.of e) (ds.lw d)
  | tup ds => obtain ⟨a, vs, rfl, e, d⟩ := r.tup; exact .tup (SqT.of e) (ds.lw d)
  | dic k ds => obtain ⟨a, ks, rfl, e, k2, d⟩ := r.dic; exact .dic e (by rw [fst_keyD k2]; exact k) (ds.lw d)
/-- data that is told, so deep and long at the most -/
def Dw (k n : Nat) (t : T) : Prop := ∃ d, Daw t d ∧ d.depth ≤ k ∧ d.showable = true ∧ d.shown.length ≤ n
def DwA (k n : Nat) (ts : List T) : Prop := ∃ ds, Daws ts ds ∧ PyData.depthAll ds ≤ k ∧ PyData.showableAll ds = true ∧ ((PyData.shownAll ds).map (·.length)).sum + 2 * ds.length ≤ n
theorem Dw.mono {k n k' n' : Nat} {t : T} (h : Dw k n t) (hk : k ≤ k') (hn : n ≤ n') : Dw k' n' t := let ⟨d, a, b, c, e⟩ := h; ⟨d, a, Nat.le_trans b hk, c, Nat.le_trans e hn⟩
theorem DwA.mono {k n k' n' : Nat} {ts : List T} (h : DwA k n ts) (hk : k ≤ k') (hn : n ≤ n') : DwA k' n' ts := let ⟨d, a, b, c, e⟩ := h; ⟨d, a, Nat.le_trans b hk, c, Nat.le_trans e hn⟩
theorem Dw.non : Dw 1 4 .non := ⟨_, .non, Shw.non.dep, Shw.non.shw, Shw.non.len⟩
theorem Dw.bl (b : Bool) : Dw 1 5 (.bl b) := ⟨_, .bl b, (Shw.bl b).dep, (Shw.bl b).shw, (Shw.bl b).len⟩
theorem Dw.int {i : Int} {j : Nat} (h0 : 0 < j) (hj : j ≤ 500) (h : i.natAbs < 10 ^ j) : Dw 1 (j + 1) (.int i) := ⟨_, .int i, (Shw.int h0 hj h).dep, (Shw.int h0 hj h).shw, (Shw.int h0 hj h).len⟩
theorem Dw.nm {z : Str} (h : Nm z) : Dw 1 82 (.str z) := ⟨_, .str z, (Shw.str h).dep, (Shw.str h).shw, (Shw.str h).len⟩
theorem DwA.nil {k : Nat} : DwA k 0 [] := ⟨[], .nil, by simp [PyData.depthAll], by simp [PyData.showableAll], by simp [PyData.shownAll]⟩
theorem DwA.cons {k n n' : Nat} {t : T} {ts : List T} (h : Dw k n t) (r : DwA k n' ts) : DwA k (n + 2 + n') (t :: ts) := by
  obtain ⟨d, a, b, c, e⟩ := h
  obtain ⟨ds, a', b', c', e'⟩ := r
  refine ⟨d :: ds, .cons a a', ?_, ?_, ?_⟩
  · simp only [PyData.depthAll]; exact Nat.max_le.mpr ⟨b, b'⟩
  · simp only [PyData.showableAll, c, c', Bool.and_self]
  · simp only [PyData.shownAll, List.map_cons, List.sum_cons, List.length_cons]
    omega
theorem DwA.all {k n : Nat} : ∀ {ts : List T}, (∀ t ∈ ts, Dw k n t) → DwA k (ts.length * (n + 2)) ts
  | [], _ => DwA.nil.mono (Nat.le_refl _) (Nat.zero_le _)
  | t :: r, h => by
    have z := DwA.cons (h t List.mem_cons_self) (DwA.all fun c hc => h c (List.mem_cons_of_mem _ hc))
    refine z.mono (Nat.le_refl _) ?_
    rw [List.length_cons, Nat.succ_mul]
    omega
theorem Dw.lst {k n : Nat} {ts : List T} (h : DwA k n ts) : Dw (k + 1) (n + 3) (.lst ts) := by
  obtain ⟨ds, a, b, c, e⟩ := h
  refine ⟨_, .lst a, ?_, ?_, ?_⟩
  · simp only [PyData.depth]; omega
  · simp only [PyData.showable, c]
  · have h2 := listText_len_le (PyData.shownAll ds)
    have h3 := PyData.shownAll_length ds
    simp only [PyData.shown]
    omega
theorem Dw.tup {k n : Nat} {ts : List T} (h : DwA k n ts) : Dw (k + 1) (n + 3) (.tup ts) := by
  obtain ⟨ds, a, b, c, e⟩ := h
  refine ⟨_, .tup a, ?_, ?_, ?_⟩
  · simp only [PyData.depth]; omega
  · simp only [PyData.showable, c]
  · have h2 := tupleText_len_le (PyData.shownAll ds)
    have h3 := PyData.shownAll_length ds
    simp only [PyData.shown]
    omega
/-- a dict by names -/
theorem dkv {k n : Nat} : ∀ {kt : List (Key × T)}, (∀ q ∈ kt, (∃ z, q.1 = .inr z ∧ Nm z) ∧ Dw k n q.2) → ∃ ds : List (PyData × PyData), (kt.map fun kv => keyD kv.1) = ds.map Prod.fst ∧ Daws (kt.map Prod.snd) (ds.map Prod.snd) ∧ PyData.depthKv ds ≤ max 1 k ∧ PyData.showableKv ds = true ∧ ((PyData.shownKv ds).map (·.length)).sum + 2 * ds.length ≤ kt.length * (n + 86)
  | [], _ => ⟨[], rfl, .nil, by simp [PyData.depthKv], by simp [PyData.showableKv], by simp [PyData.shownKv]⟩
  | (key, t) :: r, h => by
    obtain ⟨⟨z, rfl, hz⟩, d, a, b, c, e⟩ := h (key, t) List.mem_cons_self
    obtain ⟨ds, h1, h2, h3, h4, h5⟩ := dkv fun q hq => h q (List.mem_cons_of_mem _ hq)
    have sz := Shw.str hz
    have l1 := sz.len
    have l2 := sz.dep
    refine ⟨(.str z, d) :: ds, ?_, .cons a h2, ?_, ?_, ?_⟩
    · rw [List.map_cons, List.map_cons, h1]; rfl
    · simp only [PyData.depthKv]; omega
    · simp only [PyData.showableKv, sz.shw, c, h4, Bool.and_self]
    · simp only [PyData.shownKv, List.map_cons, List.sum_cons, List.length_cons, strLen_append]
      have e3 : (r.length + 1) * (n + 86) = r.length * (n + 86) + (n + 86) := Nat.succ_mul _ _
      have e2 : (": " : Str).length = 2 := rfl
      omega
theorem Dw.dic {k n : Nat} {kt : List (Key × T)} (h : ∀ q ∈ kt, (∃ z, q.1 = .inr z ∧ Nm z) ∧ Dw k n q.2) : Dw (max 1 k + 1) (kt.length * (n + 86) + 3) (.dic kt) := by
  obtain ⟨ds, h1, h2, h3, h4, h5⟩ := dkv h
  refine ⟨.dict ds, .dic h1 h2, ?_, ?_, ?_⟩
  · simp only [PyData.depth]; omega
  · simp only [PyData.showable, h4]
  · have z2 := dictText_len_le (PyData.shownKv ds)
    have z3 := PyData.shownKv_length ds
    simp only [PyData.shown]
    omega
def vReprW (ts : List T) (P : PV → Prop) : Prop := ∃ t d, ts = [t] ∧ Daw t d ∧ d.showable = true ∧ d.shown.length ≤ 16777216 ∧ d.depth ≤ 20 ∧ P (.sh (.str d.shown))
theorem cls_reprW : CallS (rReprW K) vReprW := by
  rintro av H xs ts Q P lv hx ⟨t, d, rfl, h, h2, h3, h4, q⟩ k
  obtain ⟨x, rfl, hx1⟩ := hx.one
  exact ⟨x, d, rfl, h.rk hx1, h2, h3, h4, k _ _ _ q (Nw.here (.str _))⟩
/-- what repr tells of it -/
noncomputable def shwT (t : T) : Str := open Classical in if h : ∃ d, Daw t d then (h.choose).shown else ""
mutual
theorem Daw.det : ∀ {t : T} {d e : PyData}, Daw t d → Daw t e → d = e
  | _, _, _, .non, h => by cases h; rfl
  | _, _, _, .bl _, h => by cases h; rfl
  | _, _, _, .int _, h => by cases h; rfl
  | _, _, _, .str _, h => by cases h; rfl
  | _, _, _, .lst a, h => by cases h with | lst b => rw [Daws.det a b]
  | _, _, _, .tup a, h => by cases h with | tup b => rw [Daws.det a b]
  | _, _, _, .dic (ds := ds) k a, h => by
    cases h with
    | dic k2 b =>
      have e2 := Daws.det a b
      have e1 := k.symm.trans k2
      rw [pairs_ext e1 e2]
theorem Daws.det : ∀ {ts : List T} {ds es : List PyData}, Daws ts ds → Daws ts es → ds = es
  | _, _, _, .nil, h => by cases h; rfl
  | _, _, _, .cons a r, h => by cases h with | cons b s => rw [Daw.det a b, Daws.det r s]
theorem pairs_ext : ∀ {ds es : List (PyData × PyData)}, ds.map Prod.fst = es.map Prod.fst → ds.map Prod.snd = es.map Prod.snd → ds = es
  | [], [], _, _ => rfl
  | [], _ :: _, h, _ => by cases h
  | _ :: _, [], h, _ => by cases h
  | (a, b) :: ds, (c, d) :: es, h1, h2 => by
    simp only [List.map_cons, List.cons.injEq] at h1 h2
    rw [h1.1, h2.1, pairs_ext h1.2 h2.2]
end
theorem Dw.shown {k n : Nat} {t : T} (h : Dw k n t) : ∃ d, Daw t d ∧ d.depth ≤ k ∧ d.showable = true ∧ d.shown.length ≤ n ∧ d.shown = shwT t := by
  obtain ⟨d, a, b, c, e⟩ := h
  refine ⟨d, a, b, c, e, ?_⟩
  have q : ∃ d, Daw t d := ⟨d, a⟩
  unfold shwT
  rw [dif_pos q, a.det q.choose_spec]
theorem v_reprW {k n : Nat} {t : T} {P : PV → Prop} (h : Dw k n t) (hk : k ≤ 20) (hn : n ≤ 16777216) (q : P (.sh (.str (shwT t)))) : vReprW [t] P := by
  obtain ⟨d, a, b, c, e, f⟩ := h.shown
  exact ⟨t, d, rfl, a, c, Nat.le_trans e hn, Nat.le_trans b hk, by rw [f]; exact q⟩
end
end LP
end
section
set_option maxRecDepth 100000
set_option maxHeartbeats 4000000
namespace LP
open PySem L2 LH
/-! ### dict(pairs), d.get(k), divmod -/
def mergeT (acc kvs : List (Key × T)) : List (Key × T) := kvs.foldl (fun acc kv => putT acc kv.1 kv.2) acc
def pairT (q : Key × T) : T := .tup [keyT q.1, q.2]
theorem mem_putT {acc : List (Key × T)} {k : Key} {t : T} {q : Key × T} (h : q ∈ putT acc k t) : q ∈ acc ∨ q = (k, t) := by
  unfold putT at h
  split at h
  · obtain ⟨kv, hm, e⟩ := List.mem_map.mp h
    split at e
    · next c => subst e; exact .inr (by rw [c])
    · subst e; exact .inl hm
  · rcases List.mem_append.mp h with h | h
    · exact .inl h
    · exact .inr (List.mem_singleton.mp h)
theorem mem_mergeT : ∀ {kvs acc : List (Key × T)} {q : Key × T}, q ∈ mergeT acc kvs → q ∈ acc ∨ q ∈ kvs
  | [], acc, q, h => .inl h
  | kv :: kvs, acc, q, h => by
    rcases mem_mergeT (kvs := kvs) (acc := putT acc kv.1 kv.2) h with h | h
    · exact (mem_putT h).imp id fun e => by rw [e]; exact List.mem_cons_self
    · exact .inr (List.mem_cons_of_mem _ h)
theorem mergeT_len : ∀ {kvs acc : List (Key × T)}, (mergeT acc kvs).length ≤ acc.length + kvs.length
  | [], acc => Nat.le_refl _
  | kv :: kvs, acc => by
    have h1 := mergeT_len (kvs := kvs) (acc := putT acc kv.1 kv.2)
    have h2 := putT_len acc kv.1 kv.2
    have e : mergeT acc (kv :: kvs) = mergeT (putT acc kv.1 kv.2) kvs := rfl
    rw [e, List.length_cons]
    omega
theorem putT_keys {acc : List (Key × T)} {k j : Key} {t : T} : j ∈ (putT acc k t).map Prod.fst ↔ j ∈ acc.map Prod.fst ∨ j = k := by
  unfold putT
  split
  · next c =>
    have e : (acc.map fun kv => if kv.1 = k then (kv.1, t) else kv).map Prod.fst = acc.map Prod.fst := by
      rw [List.map_map]
      apply List.map_congr_left
      intro a _
      show (if a.1 = k then (a.1, t) else a).1 = a.1
      split <;> rfl
    rw [e]
    refine ⟨.inl, fun h => h.elim id fun h => ?_⟩
    subst h
    obtain ⟨q, hq, e⟩ := List.any_eq_true.mp c
    exact List.mem_map.mpr ⟨q, hq, by simpa using e⟩
  · rw [List.map_append, List.mem_append]
    simp
theorem mergeT_keys : ∀ {kvs acc : List (Key × T)} {j : Key}, j ∈ (mergeT acc kvs).map Prod.fst ↔ j ∈ acc.map Prod.fst ∨ j ∈ kvs.map Prod.fst
  | [], acc, j => by simp [mergeT]
  | kv :: kvs, acc, j => by
    have e : mergeT acc (kv :: kvs) = mergeT (putT acc kv.1 kv.2) kvs := rfl
    rw [e, mergeT_keys, putT_keys, List.map_cons, List.mem_cons, or_assoc]
theorem valT_some {kt : List (Key × T)} {k : Key} (h : k ∈ kt.map Prod.fst) : ∃ t, valT kt k = some t ∧ (k, t) ∈ kt := by
  obtain ⟨q, hq, rfl⟩ := List.mem_map.mp h
  unfold valT
  cases e : kt.find? fun kv => decide (kv.1 = q.1) with
  | none =>
    have := List.find?_eq_none.mp e q hq
    simp at this
  | some r =>
    have h1 := List.mem_of_find?_eq_some e
    have h2 : r.1 = q.1 := by simpa using List.find?_some e
    exact ⟨r.2, rfl, by rw [← h2]; exact h1⟩
theorem valT_none {kt : List (Key × T)} {k : Key} (h : k ∉ kt.map Prod.fst) : valT kt k = none := by
  unfold valT
  cases e : kt.find? fun kv => decide (kv.1 = k) with
  | none => rfl
  | some r =>
    have h1 := List.mem_of_find?_eq_some e
    have h2 : r.1 = k := by simpa using List.find?_some e
    exact (h (List.mem_map.mpr ⟨r, h1, h2⟩)).elim
theorem valT_mem {kt : List (Key × T)} {k : Key} {t : T} (h : valT kt k = some t) : (k, t) ∈ kt := by
  by_cases c : k ∈ kt.map Prod.fst
  · obtain ⟨u, h1, h2⟩ := valT_some c
    rw [h1] at h; cases h; exact h2
  · rw [valT_none c] at h; cases h
section
variable {K : PySem.W.Frag} {av : Addr → Prop} {H : Hp} {G : Gh}
def rDictP (K : PySem.W.Frag) : List V → Hp → VK → Prop := fun xs H Q => ∃ (a : Addr) (ps : List Addr) (kvs : List (Key × V)), xs = [.ref a] ∧ SqL K H a (ps.map V.ref) ∧ Paired (fun p kv => SqT K H p [kV kv.1, kv.2]) ps kvs ∧
    ∀ p, H p = none → Q (.ref p) (upd H p (.dK (mergeK [] kvs)))
theorem _root_.LH.cr_dictP {X : Cx} (hc : X.calm = true) : CallR X (.type "dict") (rDictP X.K) := call_dictP hc
theorem keyT_v {x : V} {k : Key} (h : Dn av H x (keyT k)) : x = kV k := by
  cases k with
  | inl i => cases h; rfl
  | inr z => cases h; rfl
theorem pairs_dns : ∀ {kt : List (Key × T)} {vs : List V}, Dns av H vs (kt.map pairT) → ∃ (ps : List Addr) (kvs : List (Key × V)), vs = ps.map V.ref ∧ Paired (fun p kv => SqT K H p [kV kv.1, kv.2]) ps kvs ∧ kvs.map Prod.fst = kt.map Prod.fst ∧ Dns av H (kvs.map Prod.snd) (kt.map Prod.snd)
  | [], vs, d => by cases d; exact ⟨[], [], rfl, .nil, rfl, .nil⟩
  | q :: kt, vs, d => by
    rw [List.map_cons] at d
    cases d with
    | cons h t =>
      obtain ⟨ps, kvs, e1, e2, e3, e4⟩ := pairs_dns t
      cases h with
      | tup n e d2 =>
        cases d2 with
        | cons x1 d3 =>
          cases d3 with
          | cons x2 d4 =>
            cases d4
            obtain rfl := keyT_v x1
            exact ⟨_ :: ps, (q.1, _) :: kvs, by rw [List.map_cons, e1], .cons (SqT.of e) e2, by rw [List.map_cons, List.map_cons, e3], .cons x2 e4⟩
theorem merge_dns : ∀ {kvs : List (Key × V)} {kt : List (Key × T)} {ks : List (Key × V)} {ac : List (Key × T)}, kvs.map Prod.fst = kt.map Prod.fst → Dns av H (kvs.map Prod.snd) (kt.map Prod.snd) → ks.map Prod.fst = ac.map Prod.fst → Dns av H (ks.map Prod.snd) (ac.map Prod.snd) →
    (mergeK ks kvs).map Prod.fst = (mergeT ac kt).map Prod.fst ∧ Dns av H ((mergeK ks kvs).map Prod.snd) ((mergeT ac kt).map Prod.snd)
  | [], [], ks, ac, _, _, e, d => ⟨e, d⟩
  | [], _ :: _, _, _, e, _, _, _ => by cases e
  | _ :: _, [], _, _, e, _, _, _ => by cases e
  | (k1, v) :: kvs, (k2, t) :: kt, ks, ac, e1, d1, e2, d2 => by
    simp only [List.map_cons, List.cons.injEq] at e1
    obtain ⟨rfl, e1⟩ := e1
    rw [List.map_cons, List.map_cons] at d1
    cases d1 with
    | cons h t => exact merge_dns (ks := putK ks k1 v) (ac := putT ac k1 _) e1 t (put_fst e2) (put_dns h e2 d2)
def vDictP (ts : List T) (P : PV → Prop) : Prop := ∃ kt : List (Key × T), ts = [.lst (kt.map pairT)] ∧ P (.ow (.dic (mergeT [] kt)))
theorem cls_dictP : CallS (rDictP K) vDictP := by
  rintro av H xs ts Q P lv hx ⟨kt, rfl, q⟩ k
  obtain ⟨x, rfl, hx1⟩ := hx.one
  obtain ⟨a, vs, rfl, e1, d⟩ := hx1.lst
  obtain ⟨ps, kvs, rfl, h2, h3, h4⟩ := pairs_dns (K := K) d
  obtain ⟨m1, m2⟩ := merge_dns (ks := []) (ac := []) h3 h4 rfl .nil
  exact ⟨a, ps, kvs, rfl, SqL.of e1, h2, fun p hp => k _ _ _ q (Nw.dic hp m1 m2)⟩
theorem v_dictP {kt : List (Key × T)} {P : PV → Prop} (q : P (.ow (.dic (mergeT [] kt)))) : vDictP [.lst (kt.map pairT)] P := ⟨kt, rfl, q⟩
def rDivmod : List V → Hp → VK → Prop := fun xs H Q => ∃ i j, xs = [V.int i, V.int j] ∧ CDiv i j ∧ ∀ p, H p = none → Q (V.ref p) (upd H p (.tup [.int (i / j), .int (i % j)]))
theorem _root_.LH.cr_divmod {X : Cx} : CallR X (.builtin "divmod") rDivmod := call_divmod
def vDivmod (ts : List T) (P : PV → Prop) : Prop := ∃ i j : Int, ts = [.int i, .int j] ∧ CDiv i j ∧ P (.sh (.tup [.int (i / j), .int (i % j)]))
theorem cls_divmod : CallS rDivmod vDivmod := by
  rintro av H xs ts Q P lv hx ⟨i, j, rfl, c, q⟩ k
  refine ⟨i, j, hx.ints2, c, fun p hp => k _ _ _ q (Nw.tup hp (fun z => ?_) (.cons (.int _) (.cons (.int _) .nil)))⟩
  obtain ⟨o, e, _⟩ := lv p z
  rw [hp] at e; cases e
theorem v_divmod {i j : Int} {P : PV → Prop} (c : 0 < j ∧ j < 1073741824) (q : P (.sh (.tup [.int (i / j), .int (i % j)]))) : vDivmod [.int i, .int j] P := ⟨i, j, rfl, c, q⟩
theorem _root_.LH.m1_get {X : Cx} {o e : Expr} {apos cpos : Pos} (h1 : attributeBase o "get" X.env (eval o X.env) = eval o X.env := by rfl) (h2 : ((backTo cpos (starEach [e] X.env)).all (fun x => !x.1) && (backToKw cpos (keywordEach [] X.env)).all (fun x => x.1.isSome) && decide (([e] : List Expr).length + ([] : List Keyword).length + (if ([] : List Keyword).isEmpty then 0 else 1) < 30)) = true := by rfl)
    (h3 : (apos.endLine == cpos.line) = true := by rfl) (h4 : backTo cpos (starEach [e] X.env) = [(false, eval e X.env)] := by rfl) : M1 X o "get" apos e cpos := ⟨h1, h2, h3, h4⟩
/-- d.get(k) of a dict by names, numbers -/
def lGet1 (ld ly : LE) : LE := fun ρ Q => ld ρ fun p ρ1 => ∃ kt, val ρ1 p = some (.dic kt) ∧ ly ρ1 fun q ρ2 => ∃ kt2 u key, val ρ2 p = some (.dic kt2) ∧ val ρ2 q = some u ∧ tkey u = some key ∧ Q (.sh ((valT kt2 key).getD .non)) ρ2
theorem sn_get1 {td ty : TE} {ld ly : LE} (hd : Snd G td ld) (hy : Snd G ty ly) : Snd G (tDGet1 td ty) (lGet1 ld ly) := by
  intro ρ σ S H Q P R0 h k
  refine hd ρ σ S H _ _ R0 h fun p ρ1 x H1 h1 R1 => ?_
  obtain ⟨kt, e1, h1⟩ := h1
  obtain ⟨w, R1'⟩ := id R1
  obtain ⟨a, ks, rfl, e2, k2, d2⟩ := (R1'.rk R1'.top e1).dic
  refine ⟨a, rfl, .inl ⟨ks, e2⟩, ?_⟩
  refine hy ρ1 σ _ H1 _ _ R1 h1 fun q ρ2 y H2 h2 R2 => ?_
  obtain ⟨kt2, u, key, e3, e4, e5, h2⟩ := h2
  obtain ⟨w, R2⟩ := R2
  obtain ⟨a', ov, ea, g, z⟩ := dget_of (r := valT kt2 key) (R2.rk R2.stk.2.1 e3) (R2.rk R2.stk.1 e4) (by simp only [dgetT, e5])
  cases ea
  rcases z with ⟨v, t', rfl, e, d⟩ | ⟨rfl, e⟩
  · rw [e] at h2
    exact ⟨_, g, k _ _ _ _ h2 (R2.pop.pop.res (Nw.here d))⟩
  · rw [e] at h2
    exact ⟨_, g, k _ _ _ _ h2 (R.leaf ⟨w, R2.pop.pop⟩ fun _ _ => .non)⟩
def kGet1 (ly : LE) (p : PV) (ρ1 : Env) (Q : PV → Env → Prop) : Prop := ∃ kt, val ρ1 p = some (.dic kt) ∧ ly ρ1 fun q ρ2 => ∃ kt2 u key, val ρ2 p = some (.dic kt2) ∧ val ρ2 q = some u ∧ tkey u = some key ∧ Q (.sh ((valT kt2 key).getD .non)) ρ2
def kGet2 (p q : PV) (ρ2 : Env) (Q : PV → Env → Prop) : Prop := ∃ kt2 u key, val ρ2 p = some (.dic kt2) ∧ val ρ2 q = some u ∧ tkey u = some key ∧ Q (.sh ((valT kt2 key).getD .non)) ρ2
theorem w_get1 {ρ : Env} {Q : PV → Env → Prop} {ld ly : LE} (h : ld ρ fun p ρ1 => kGet1 ly p ρ1 Q) : lGet1 ld ly ρ Q := h
theorem w_kget1 {ρ : Env} {Q : PV → Env → Prop} {ly : LE} {p : PV} {kt : List (Key × T)} (e : val ρ p = some (.dic kt)) (h : ly ρ fun q ρ2 => kGet2 p q ρ2 Q) : kGet1 ly p ρ Q := ⟨kt, e, h⟩
theorem w_kget2 {ρ : Env} {Q : PV → Env → Prop} {p q : PV} {kt : List (Key × T)} {u : T} {key : Key} (e1 : val ρ p = some (.dic kt)) (e2 : val ρ q = some u) (e3 : tkey u = some key) (h : Q (.sh ((valT kt key).getD .non)) ρ) : kGet2 p q ρ Q := ⟨kt, u, key, e1, e2, e3, h⟩
/-- over the keys of a dict -/
theorem w_lcK {ρ ρ2 : Env} {Q : PV → Env → Prop} {i j : Nat} {lg : LG} {lt : LT} {le : LE} {vs vs' : List Nat} {kt : List (Key × T)} {t : T} (I : Nat → List T → Env → Prop) (e : vs = vs') (hio : ρ[j]? = some (some (.io t))) (hi : ρ[i]? = some (some (.sh (.dic kt)))) (hk : hok ρ vs' = true) (hz : kt.length ≤ 1000000) (e2 : wipeE ρ vs' = ρ2) (h0 : I 0 [] ρ2)
    (h1 : ∀ k acc q ρ3, kt[k]? = some q → acc.length ≤ k → I k acc ρ3 → lg (keyT q.1) ρ3 fun ρ3 => lt ρ3 fun b ρ4 => if b = true then le ρ4 fun p ρ5 => kItem vs' p ρ5 fun u ρ6 => I (k + 1) (acc ++ [u]) ρ6 else kSkip vs' ρ4 fun ρ6 => I (k + 1) acc ρ6)
    (h2 : ∀ acc ρ3, I kt.length acc ρ3 → Q (.ow (.lst acc)) ρ3) : lLcK i lg lt le vs ρ Q := by
  subst e
  refine ⟨⟨j, t, hio⟩, kt, hi, hk, hz, I, by rw [e2]; exact h0, fun k acc u ρ3 hu ha hI => ?_, h2⟩
  rw [List.getElem?_map] at hu
  cases q : kt[k]? with
  | none => rw [q] at hu; cases hu
  | some x => rw [q] at hu; cases hu; exact h1 k acc x ρ3 q ha hI
end
end LP
end
section
set_option maxRecDepth 100000
set_option maxHeartbeats 4000000
namespace LH
open PySem L2
def top (i : Nat) : Stmt := PySem.Challenge.pw_likehouses_k49_numbers_read.main.body.getD i (.Pass ⟨0, 0, 0, 0⟩)
abbrev s_number_in : Stmt := top 1
abbrev n_number_in : List Str := ["row", "more", "time", "room"]
theorem sc_number_in : FnScope n_number_in ["row", "more", "time", "room"] (defScope s_number_in) := ⟨rfl, rfl, rfl, by decide +kernel, rfl, by decide +kernel, by decide +kernel⟩
abbrev s_number_at : Stmt := top 2
abbrev n_number_at : List Str := ["numbers", "house", "room", "first", "stretch", "left", "right", "at", "pieces", "further", "times", "rows", "more", "time", "place"]
theorem sc_number_at : FnScope n_number_at ["numbers", "house", "room"] (defScope s_number_at) := ⟨rfl, rfl, rfl, by decide +kernel, rfl, by decide +kernel, by decide +kernel⟩
abbrev s_law_pen : Stmt := top 4
abbrev n_law_pen : List Str := ["script"]
theorem sc_law_pen : FnScope n_law_pen ["script"] (defScope s_law_pen) := ⟨rfl, rfl, rfl, by decide +kernel, rfl, by decide +kernel, by decide +kernel⟩
abbrev s_law_draw : Stmt := top 5
abbrev n_law_draw : List Str := ["pen", "many", "digit", "turn", "cell", "primes", "prime", "drawn"]
theorem sc_law_draw : FnScope n_law_draw ["pen", "many"] (defScope s_law_draw) := ⟨rfl, rfl, rfl, by decide +kernel, rfl, by decide +kernel, by decide +kernel⟩
abbrev s_law_pick : Stmt := top 6
abbrev n_law_pick : List Str := ["pen", "some"]
theorem sc_law_pick : FnScope n_law_pick ["pen", "some"] (defScope s_law_pick) := ⟨rfl, rfl, rfl, by decide +kernel, rfl, by decide +kernel, by decide +kernel⟩
abbrev s_law_shuffled : Stmt := top 7
abbrev n_law_shuffled : List Str := ["pen", "some", "left", "found"]
theorem sc_law_shuffled : FnScope n_law_shuffled ["pen", "some"] (defScope s_law_shuffled) := ⟨rfl, rfl, rfl, by decide +kernel, rfl, by decide +kernel, by decide +kernel⟩
abbrev s_law_names : Stmt := top 8
abbrev n_law_names : List Str := ["pen", "many", "words", "turn", "letters", "base", "k", "at", "first", "cut", "step", "found", "tail"]
theorem sc_law_names : FnScope n_law_names ["pen", "many"] (defScope s_law_names) := ⟨rfl, rfl, rfl, by decide +kernel, rfl, by decide +kernel, by decide +kernel⟩
abbrev s_law_number : Stmt := top 9
abbrev n_law_number : List Str := ["tolls", "house", "room", "first", "stretch", "lefts", "rights", "at", "far", "pieces", "times", "lane", "more", "turn", "spot"]
theorem sc_law_number : FnScope n_law_number ["tolls", "house", "room"] (defScope s_law_number) := ⟨rfl, rfl, rfl, by decide +kernel, rfl, by decide +kernel, by decide +kernel⟩
abbrev s_law_row : Stmt := top 10
abbrev n_law_row : List Str := ["pen", "names", "some", "name"]
theorem sc_law_row : FnScope n_law_row ["pen", "names"] (defScope s_law_row) := ⟨rfl, rfl, rfl, by decide +kernel, rfl, by decide +kernel, by decide +kernel⟩
abbrev s_law_piece : Stmt := top 11
abbrev n_law_piece : List Str := ["pen", "names", "times", "many", "lane", "more", "k", "row", "name"]
theorem sc_law_piece : FnScope n_law_piece ["pen", "names", "times"] (defScope s_law_piece) := ⟨rfl, rfl, rfl, by decide +kernel, rfl, by decide +kernel, by decide +kernel⟩
abbrev s_law_pieces : Stmt := top 12
abbrev n_law_pieces : List Str := ["pen", "names", "found", "k"]
theorem sc_law_pieces : FnScope n_law_pieces ["pen", "names"] (defScope s_law_pieces) := ⟨rfl, rfl, rfl, by decide +kernel, rfl, by decide +kernel, by decide +kernel⟩
abbrev s_law_houses : Stmt := top 13
abbrev n_law_houses : List Str := ["pen", "tolls", "first", "stretch", "lefts", "rights", "found", "sign", "begin", "pieces", "far", "times", "lane", "more", "span", "spots", "spot"]
theorem sc_law_houses : FnScope n_law_houses ["pen", "tolls"] (defScope s_law_houses) := ⟨rfl, rfl, rfl, by decide +kernel, rfl, by decide +kernel, by decide +kernel⟩
abbrev s_law : Stmt := top 14
abbrev n_law : List Str := ["script", "pen", "bout", "names", "stretch", "k", "first", "tolls", "kept", "house", "name"]
theorem sc_law : FnScope n_law ["script"] (defScope s_law) := ⟨rfl, rfl, rfl, by decide +kernel, rfl, by decide +kernel, by decide +kernel⟩
/-- what the top has written -/
structure Tx (K : PySem.W.Frag) (mg : Str → Option Value) where
  a_number_in : Addr
  fd_number_in : FuncData
  F_number_in : Fun K "_number_in" "_number_in" s_number_in a_number_in fd_number_in
  b_number_in : Binds K fd_number_in ["row", "more", "time", "room"] []
  k_number_in : PySem.W.keepIn K (.ref a_number_in) = true
  g_number_in : mg "_number_in" = some (.ref a_number_in)
  a_number_at : Addr
  fd_number_at : FuncData
  F_number_at : Fun K "number_at" "number_at" s_number_at a_number_at fd_number_at
  b_number_at : Binds K fd_number_at ["numbers", "house", "room"] []
  k_number_at : PySem.W.keepIn K (.ref a_number_at) = true
  g_number_at : mg "number_at" = some (.ref a_number_at)
  a_law_pen : Addr
  fd_law_pen : FuncData
  F_law_pen : Fun K "_law_pen" "_law_pen" s_law_pen a_law_pen fd_law_pen
  b_law_pen : Binds K fd_law_pen ["script"] []
  k_law_pen : PySem.W.keepIn K (.ref a_law_pen) = true
  g_law_pen : mg "_law_pen" = some (.ref a_law_pen)
  a_law_draw : Addr
  fd_law_draw : FuncData
  F_law_draw : Fun K "_law_draw" "_law_draw" s_law_draw a_law_draw fd_law_draw
  b_law_draw : Binds K fd_law_draw ["pen", "many"] []
  k_law_draw : PySem.W.keepIn K (.ref a_law_draw) = true
  g_law_draw : mg "_law_draw" = some (.ref a_law_draw)
  a_law_pick : Addr
  fd_law_pick : FuncData
  F_law_pick : Fun K "_law_pick" "_law_pick" s_law_pick a_law_pick fd_law_pick
  b_law_pick : Binds K fd_law_pick ["pen", "some"] []
  k_law_pick : PySem.W.keepIn K (.ref a_law_pick) = true
  g_law_pick : mg "_law_pick" = some (.ref a_law_pick)
  a_law_shuffled : Addr
  fd_law_shuffled : FuncData
  F_law_shuffled : Fun K "_law_shuffled" "_law_shuffled" s_law_shuffled a_law_shuffled fd_law_shuffled
  b_law_shuffled : Binds K fd_law_shuffled ["pen", "some"] []
  k_law_shuffled : PySem.W.keepIn K (.ref a_law_shuffled) = true
  g_law_shuffled : mg "_law_shuffled" = some (.ref a_law_shuffled)
  a_law_names : Addr
  fd_law_names : FuncData
  F_law_names : Fun K "_law_names" "_law_names" s_law_names a_law_names fd_law_names
  b_law_names : Binds K fd_law_names ["pen", "many"] []
  k_law_names : PySem.W.keepIn K (.ref a_law_names) = true
  g_law_names : mg "_law_names" = some (.ref a_law_names)
  a_law_number : Addr
  fd_law_number : FuncData
  F_law_number : Fun K "_law_number" "_law_number" s_law_number a_law_number fd_law_number
  b_law_number : Binds K fd_law_number ["tolls", "house", "room"] []
  k_law_number : PySem.W.keepIn K (.ref a_law_number) = true
  g_law_number : mg "_law_number" = some (.ref a_law_number)
  a_law_row : Addr
  fd_law_row : FuncData
  F_law_row : Fun K "_law_row" "_law_row" s_law_row a_law_row fd_law_row
  b_law_row : Binds K fd_law_row ["pen", "names"] []
  k_law_row : PySem.W.keepIn K (.ref a_law_row) = true
  g_law_row : mg "_law_row" = some (.ref a_law_row)
  a_law_piece : Addr
  fd_law_piece : FuncData
  F_law_piece : Fun K "_law_piece" "_law_piece" s_law_piece a_law_piece fd_law_piece
  b_law_piece : Binds K fd_law_piece ["pen", "names", "times"] []
  k_law_piece : PySem.W.keepIn K (.ref a_law_piece) = true
  g_law_piece : mg "_law_piece" = some (.ref a_law_piece)
  a_law_pieces : Addr
  fd_law_pieces : FuncData
  F_law_pieces : Fun K "_law_pieces" "_law_pieces" s_law_pieces a_law_pieces fd_law_pieces
  b_law_pieces : Binds K fd_law_pieces ["pen", "names"] []
  k_law_pieces : PySem.W.keepIn K (.ref a_law_pieces) = true
  g_law_pieces : mg "_law_pieces" = some (.ref a_law_pieces)
  a_law_houses : Addr
  fd_law_houses : FuncData
  F_law_houses : Fun K "_law_houses" "_law_houses" s_law_houses a_law_houses fd_law_houses
  b_law_houses : Binds K fd_law_houses ["pen", "tolls"] []
  k_law_houses : PySem.W.keepIn K (.ref a_law_houses) = true
  g_law_houses : mg "_law_houses" = some (.ref a_law_houses)
  a_law : Addr
  fd_law : FuncData
  F_law : Fun K "law" "law" s_law a_law fd_law
  b_law : Binds K fd_law ["script"] []
  k_law : PySem.W.keepIn K (.ref a_law) = true
  g_law : mg "law" = some (.ref a_law)
  z_int : mg "int" = none
  z_divmod : mg "divmod" = none
  z_len : mg "len" = none
  z_list : mg "list" = none
  z_abs : mg "abs" = none
  z_range : mg "range" = none
  z_dict : mg "dict" = none
  z_repr : mg "repr" = none
end LH
end
section
set_option maxRecDepth 100000
set_option maxHeartbeats 4000000
namespace LH
open PySem L2
local macro_rules | `(tactic| walk_at "ne") => `(tactic| first
  | assumption
  | (refine' Ne.symm ?hz; (case hz => assumption)))
local macro_rules | `(tactic| walk_at "hp") => `(tactic| first
  | assumption
  | exact upd_same
  | (refine' Same.look (by assumption) ?hz; (case hz => walk_at "hp"))
  | (refine' Sb.look (by assumption) ?hn ?hz; (case hn => walk_at "ne"); (case hz => walk_at "hp"))
  | (refine' upd_new ?hz (by assumption); (case hz => walk_at "hp"))
  | (refine' upd_keep ?hz (by assumption); (case hz => walk_at "hp"))
  | (refine' upd_keep' ?hz (by assumption); (case hz => walk_at "hp")))
local macro_rules | `(tactic| walk_at "sb") => `(tactic| first
  | assumption
  | exact Sb.refl _ _
  | exact Same.refl _
  | (refine' Sb.of_same ?hz; (case hz => assumption))
  | (refine' Sb.trans ?hz (Sb.of_same (by assumption)); (case hz => walk_at "sb"))
  | (refine' Sb.trans ?hz (by assumption); (case hz => walk_at "sb"))
  | (refine' Sb.mut ?hz (by assumption) ?hn; (case hz => walk_at "sb"); (case hn => walk_at "fr"))
  | (refine' Same.trans ?hz (by assumption); (case hz => walk_at "sb"))
  | (refine' Same.mut ?hz (by assumption) ?hn; (case hz => walk_at "sb"); (case hn => walk_at "fr")))
local macro_rules | `(tactic| walk_at "fr") => `(tactic| first
  | assumption
  | (refine' Same.free' (by assumption) ?hz; (case hz => walk_at "fr"))
  | (refine' Sb.free (by assumption) ?hn ?hz; (case hz => walk_at "fr"); (case hn => walk_at "ne")))
local macro_rules | `(tactic| walk_at "pn") => `(tactic| first
  | assumption
  | (refine' Pen.same ?hz (by assumption); (case hz => walk_at "pn"))
  | (refine' Pen.sb ?hz (by assumption) ?hn ?hm; (case hz => walk_at "pn"); (case hn => walk_at "ne"); (case hm => walk_at "ne")))
local macro_rules | `(tactic| walk_at "sq") => `(tactic| first
  | assumption
  | (refine' SqL.of ?hz; (case hz => walk_at "hp"))
  | (refine' SqT.of ?hz; (case hz => walk_at "hp"))
  | (refine' Or.inl (SqL.of ?hz); (case hz => walk_at "hp"))
  | (refine' Or.inr (SqT.of ?hz); (case hz => walk_at "hp"))
  | (refine' Or.inl ?hz; (case hz => assumption))
  | (refine' Or.inr ?hz; (case hz => assumption)))
local macro_rules | `(tactic| walk_at "ar") => `(tactic| first
  | assumption
  | decide
  | omega
  | exact ⟨by omega, by omega⟩
  | exact Or.inl ⟨by omega, by omega⟩
  | exact Or.inr ⟨by omega, by omega⟩
  | exact ⟨by decide, by decide, by decide⟩
  | exact wide_div (b := 62) (by omega) (by omega) (by decide) (by decide)
  | exact wide_div (b := 130) (by omega) (by omega) (by decide) (by decide))
local macro_rules | `(tactic| walk_at "lk") => `(tactic| first
  | assumption
  | exact sortF_rooms _ _
  | exact sortF_doors _ _
  | exact streetF_left _ _ _ _
  | exact streetF_first _ _ _ _
  | exact streetF_odd _ _ _ _
  | exact streetF_right _ _ _ _
  | exact sortF_no _ _ (by decide +kernel) (by decide +kernel)
  | exact streetF_no _ _ _ _ (by decide +kernel) (by decide +kernel) (by decide +kernel) (by decide +kernel))
local macro_rules | `(tactic| walk_at "x1") => `(tactic| first
  | (with_reducible refine' s_seq ?_)
  | ((with_reducible refine' s_var ?hv ?_); (case hv => exact rfl))
  | (with_reducible refine' s_c ?_)
  | (with_reducible refine' s_op ?_)
  | (with_reducible refine' s_asg ?_)
  | (with_reducible refine' s_ret ?_)
  | (with_reducible refine' s_I0 ?_)
  | ((with_reducible refine' s_I ?hc ?_); (case hc => walk_at "ar"))
  | (with_reducible refine' s_test ?_)
  | (with_reducible refine' s_bl ?_)
  | (with_reducible refine' s_ifS ?_)
  | (with_reducible refine' s_next ?_)
  | (with_reducible refine' s_dget ?_)
  | (with_reducible refine' s_cons ?_)
  | (with_reducible refine' s_nil ?_)
  | (with_reducible refine' s_CB ?_)
  | (with_reducible refine' s_lst ?_)
  | (with_reducible refine' s_tup ?_)
  | ((with_reducible refine' s_mkL ?hl ?_); (case hl => first | exact (Nat.le_of_ble_eq_true rfl) | omega))
  | ((with_reducible refine' s_mkT ?hl ?_); (case hl => first | exact (Nat.le_of_ble_eq_true rfl) | omega))
  | (with_reducible refine' s_drop ?_)
  | (with_reducible refine' s_and ?_)
  | (with_reducible refine' s_or ?_)
  | (with_reducible refine' s_not ?_)
  | (with_reducible refine' s_if ?_)
  | (with_reducible refine' s_un ?_)
  | (with_reducible refine' s_rU ?_)
  | (with_reducible refine' s_B ?_)
  | (with_reducible refine' s_yes ?_)
  | (with_reducible refine' s_andV ?_)
  | (with_reducible refine' s_orV ?_)
  | (with_reducible refine' s_notV ?_)
  | (with_reducible refine' s_chain ?_)
  | (with_reducible refine' s_disp ?_)
  | (with_reducible refine' s_pcons ?_)
  | (with_reducible refine' s_pnil ?_)
  | (with_reducible refine' s_dput ?_)
  | (with_reducible refine' s_sl ?_)
  | (with_reducible refine' s_noPart ?_)
  | (with_reducible refine' s_part ?_)
  | (with_reducible refine' s_pt ?_)
  | (with_reducible refine' s_bm ?_)
  | (with_reducible refine' s_bm0 ?_)
  | (with_reducible refine' s_fld ?_)
  | (with_reducible refine' s_fldS ?_)
  | (with_reducible refine' s_par ?_)
  | (with_reducible refine' s_pair ?_)
  | (with_reducible refine' s_par3 ?_)
  | (with_reducible refine' s_tri ?_)
  | (with_reducible refine' s_asgT ?_)
  | (with_reducible refine' s_gName ?_)
  | (with_reducible refine' s_gNil ?_)
  | (with_reducible refine' s_gCons ?_)
  | (with_reducible refine' s_retN ?_)
  | (with_reducible refine' s_call1 ?_)
  | (with_reducible refine' s_eqI ?_)
  | (with_reducible refine' s_neI ?_)
  | (with_reducible refine' s_eqS ?_)
  | (with_reducible refine' s_neS ?_)
  | (with_reducible refine' s_abs ?_)
  | (with_reducible refine' s_strS ?_)
  | (with_reducible refine' s_wt ?_)
  | (with_reducible refine' s_forR ?_)
  | (with_reducible refine' s_forL ?_)
  | (with_reducible refine' s_lcR ?_)
  | (with_reducible refine' s_lcL ?_)
  | (with_reducible refine' s_lcT ?_)
  | (with_reducible refine' s_m1 ?_)
  | (with_reducible refine' s_str ?_)
  | (with_reducible refine' s_gSub ?_)
  | (with_reducible refine' s_dnew ?_)
  | (with_reducible refine' s_lcS ?_)
  | (with_reducible refine' s_make ?_)
  | (with_reducible refine' s_intI ?_)
  | ((with_reducible refine' s_gTup ?hs ?hl ?_); (case hs => walk_at "sq"); (case hl => exact rfl))
  | (with_reducible refine' s_itT ?_)
  | (with_reducible refine' s_itF ?_)
  | ((with_reducible refine' s_dgetS ?hp ?he ?_); (case hp => walk_at "hp"); (case he => first | exact penK_rest _ _ _ | exact penK_turn _ _ _ | exact penK_cells _ _ _ | exact sortK_rooms _ _ | exact sortK_doors _ _ | exact streetK_left _ _ _ _ | exact streetK_first _ _ _ _ | exact streetK_odd _ _ _ _ | exact streetK_right _ _ _ _ | assumption))
  | ((with_reducible refine' s_dputS ?hp ?he ?hl ?_); (case hp => walk_at "hp"); (case he => first | exact put_turn _ _ _ _ | exact put_rest _ _ _ _ | exact rfl); (case hl => exact small1000 (Nat.le_of_ble_eq_true rfl)))
  | ((with_reducible refine' s_ixL ?hs ?he ?_); (case hs => walk_at "sq"); (case he => first | assumption | exact rfl))
  | ((with_reducible refine' s_ixT ?hs ?he ?_); (case hs => walk_at "sq"); (case he => first | assumption | exact rfl))
  | ((with_reducible refine' s_lenL ?hs ?_); (case hs => walk_at "sq"))
  | ((with_reducible refine' s_lenZ ?hs ?_); (case hs => assumption))
  | ((with_reducible refine' s_ixS ?hs ?he ?_); (case hs => assumption); (case he => first | assumption | exact rfl))
  | ((with_reducible refine' s_lstOf ?hs ?_); (case hs => walk_at "sq"))
  | ((with_reducible refine' s_slL ?hs ?_); (case hs => walk_at "sq"))
  | ((with_reducible refine' s_tyL ?hs ?_); (case hs => walk_at "sq"))
  | ((with_reducible refine' s_append ?hp ?hl ?_); (case hp => walk_at "hp"); (case hl => walk_at "ar"))
  | ((with_reducible refine' s_neL ?ha ?hb ?h0 ?_); (case ha => walk_at "sq"); (case hb => walk_at "sq"); (case h0 => first | exact Or.inr rfl | exact Or.inl rfl))
  | ((with_reducible refine' s_eqL ?ha ?hb ?h0 ?_); (case ha => walk_at "sq"); (case hb => walk_at "sq"); (case h0 => first | exact Or.inr rfl | exact Or.inl rfl))
  | ((with_reducible refine' s_clear ?hp ?_); (case hp => walk_at "hp"))
  | ((with_reducible refine' s_reverse ?hp ?_); (case hp => walk_at "hp"))
  | ((with_reducible refine' s_fldV ?hp ?hc ?hn ?he ?_); (case hp => walk_at "hp"); (case hc => assumption); (case hn => assumption); (case he => walk_at "lk"))
  | (with_reducible refine' s_methO ?_)
  | ((with_reducible refine' s_methV ?hp ?hn ?_); (case hp => walk_at "hp"); (case hn => walk_at "lk"))
  )
local macro_rules | `(tactic| walk_at "xs") => `(tactic| repeat (walk_at "x1"))
local macro_rules | `(tactic| walk_at "go") => `(tactic| ((try dsimp only [cxOf, Cx.nox, Cx.wish]); walk_at "xs"))
local macro_rules | `(tactic| walk_at "xu") => `(tactic| repeat (first | walk_at "x1" | (with_reducible refine' s_muU ?_)))

theorem ok_law_pen {P : Program} {w : World} {K : PySem.W.Frag} {mg : Str → Option Value} {base : Heap} (T : Tx K mg) : FnOk P w K mg base CX0 1 T.a_law_pen T.fd_law_pen ["script"] (spPen K) := by
  refine T.F_law_pen.ok sc_law_pen (fun vs H Q E h => ?_) (fun cdv A outer s H vs Q E hr h => ?_)
  · obtain ⟨a, ns, rfl, _⟩ := h
    rfl
  · obtain ⟨a, ns, rfl, hS, hns, k⟩ := h
    refine ⟨_, (pss_one (ps_ret (pe_disp (pps_cons pe_str (pe_callTy call_lstOf (by rfl) T.z_list (by decide +kernel) (pa_cons (pe_slice sl_list (pv 0) po_none (po_some pe_int)) pa_nil)) (pps_cons pe_str pe_int (pps_cons pe_str pe_int pps_nil))) (by rfl) (by rfl) (fun z => by cases z) (by decide)))), ?_⟩
    walk_at "go"
    refine s_nu fun p hp => ?_
    have hS1 : SqL K (upd H p (.dK [])) a (ns.map V.int) := Same.seq (Same.new (Same.refl H) hp) hS
    walk_at "xu"
    refine s_nu fun l hl => ?_
    walk_at "xu"
    refine s_nu fun l2 hl2 => ?_
    walk_at "xu"
    refine s_ds (kvs := penK l2 0 0) (by walk_at "hp") rfl (by show 3 ≤ 15; decide) (make_pen _ _ _) ?_
    refine s_muU ?_
    have e : cutV (ns.map V.int) none (some 63) = (ns.take 63).map V.int := by
      rw [cutV_to (by decide), List.map_take]
      rfl
    have hn2 : l2 ≠ p := by
      intro z
      rw [z, upd_ne (by intro z; rw [z, upd_same] at hl; cases hl), upd_same] at hl2
      cases hl2
    refine k _ _ _ hp (free_upd (free_upd hl2)) ?_ ⟨ns.take 63, 0, 0, upd_same, ?_, by simp; omega, by omega, by omega, by omega⟩
    · intro b o hb
      have h1 := ne_of_none hb hp
      have h2 := ne_of_none (upd_new hb hp (u := .dK [])) hl
      have h3 := ne_of_none (upd_new (upd_new hb hp (u := .dK [])) hl) hl2
      rw [upd_ne h1, upd_ne h3, upd_ne h2, upd_ne h1]
      exact hb
    · rw [upd_ne hn2, upd_same, e]
theorem ok_law_draw {P : Program} {w : World} {K : PySem.W.Frag} {mg : Str → Option Value} {base : Heap} (T : Tx K mg) : FnOk P w K mg base CX0 1 T.a_law_draw T.fd_law_draw ["pen", "many"] (spDraw) := by
  refine T.F_law_draw.ok sc_law_draw (fun vs H Q E h => ?_) (fun cdv A outer s H vs Q E hr h => ?_)
  · obtain ⟨p, c, m, n, rfl, _⟩ := h
    rfl
  · obtain ⟨p, c, m, n, rfl, hP, hn, hm, hm2, k⟩ := h
    have hu := hu_of hr
    refine ⟨_, (pss_cons (ps_if (pt_cmpR op_gt (pe_dget hu (pv 0) pe_str (fun _ _ => rfl)) pe_int (nomark _))
      (pss_cons (ps_set (i := 2) (sc_law_draw).nd rfl (Or.inl rfl) (pe_op op_mod (pe_dget hu (pv 0) pe_str (fun _ _ => rfl)) (pv 1)))
      (pss_cons (ps_dput hu (pv 0) pe_str (pe_op op_fdivW (pe_dget hu (pv 0) pe_str (fun _ _ => rfl)) (pv 1)) rfl)
      (pss_one (ps_ret (pv 2)))))
      pss_nil)
      (pss_cons (ps_set (i := 3) (sc_law_draw).nd rfl (Or.inl rfl) (pe_dget hu (pv 0) pe_str (fun _ _ => rfl)))
      (pss_cons (ps_dput hu (pv 0) pe_str (pe_op op_add (pv 3) pe_int) rfl)
      (pss_cons (ps_set (i := 4) (sc_law_draw).nd rfl (Or.inl rfl) (pe_op op_add (pe_op op_mul pe_int (pv 3)) pe_int))
      (Evl.pss_cut (ps_if (pt_cmpR (op_neNil hr.units0) (pe_dget hu (pv 0) pe_str (fun _ _ => rfl)) (pe_lst pa_nil) (nomark _))
      (pss_one (ps_set (i := 4) (sc_law_draw).nd rfl (Or.inl rfl) (pe_ix ix_list (pe_dget hu (pv 0) pe_str (fun _ _ => rfl)) (pe_op op_mod (pv 3) (pe_callB call_lenL (by rfl) T.z_len (by decide +kernel) (pa_cons (pe_dget hu (pv 0) pe_str (fun _ _ => rfl)) pa_nil))) (fun _ _ => rfl))))
      pss_nil)
      (Evl.pss_cut (ps_if (PW.pt (pw_and (pt_cmpR op_lt (pv 3) (pe_callB call_lenL (by rfl) T.z_len (by decide +kernel) (pa_cons (pe_dget hu (pv 0) pe_str (fun _ _ => rfl)) pa_nil)) (nomark _)) (pw_and1 (pt_cmpR op_ge (pe_callB call_absI (by rfl) T.z_abs (by decide +kernel) (pa_cons (pv 4) pa_nil)) (pe_op op_pow pe_int pe_int) (nomark _)))))
      (pss_cons (ps_dput hu (pv 0) pe_str (pe_op op_fdivW (pe_op op_sub (pe_callB call_absI (by rfl) T.z_abs (by decide +kernel) (pa_cons (pv 4) pa_nil)) (pe_op op_pow pe_int pe_int)) (pv 1)) rfl)
      (pss_one (ps_ret (pe_op op_mod (pe_op op_sub (pe_callB call_absI (by rfl) T.z_abs (by decide +kernel) (pa_cons (pv 4) pa_nil)) (pe_op op_pow pe_int pe_int)) (pv 1)))))
      pss_nil)
      (pss_cons (ps_set (i := 5) (sc_law_draw).nd rfl (Or.inl rfl) (pe_lst (pa_cons pe_int (pa_cons pe_int (pa_cons pe_int (pa_cons pe_int (pa_cons pe_int pa_nil)))))))
      (pss_cons (ps_set (i := 6) (sc_law_draw).nd rfl (Or.inl rfl) (pe_ix ix_list (pv 5) (pe_op op_mod (pv 3) pe_int) (fun _ _ => rfl)))
      (pss_cons (ps_set (i := 7) (sc_law_draw).nd rfl (Or.inl rfl) (pe_op op_mod (pe_op op_add (pe_op op_add (pe_op op_mul (pe_op op_mod (pv 4) (pv 6)) pe_int) (pe_op op_mul (pe_op op_mul pe_int (pv 3)) (pv 3))) pe_int) (pv 6)))
      (pss_cons (ps_set (i := 7) (sc_law_draw).nd rfl (Or.inl rfl) (pe_op op_mod (pe_op op_mul (pv 7) (pe_op op_add (pv 7) pe_int)) (pe_ix ix_list (pv 5) (pe_op op_mod (pe_op op_add (pv 3) pe_int) pe_int) (fun _ _ => rfl))))
      (pss_one (ps_ret (pe_op op_mod (pe_op op_fdivW (pe_op op_mod (pe_op op_mul (pv 7) (pv 7)) pe_int) pe_int) (pv 1)))))))))))))), ?_⟩
    try dsimp only [cxOf, Cx.nox, Cx.wish]
    obtain ⟨ns, t, r, h1, h2, h3, h4, h5, h6⟩ := id hP
    have hcp : c ≠ p := ne_of h2 h1 (by intro z; cases z)
    have t64 : t < 2 ^ 64 := by omega
    walk_at "xu"
    refine ite2 (fun h0 => ?_) (fun h0 => ?_)
    · walk_at "xu"
      refine k (r % m) _ (Int.emod_nonneg _ (by omega)) (Int.emod_lt_of_pos _ hm) ((Sb.refl p H).pen) ⟨ns, t, r / m, upd_same, upd_keep h2 hcp, h3, h4, by omega, Int.ediv_nonneg h6 (by omega)⟩
    · walk_at "xu"
      refine s_cut (fun σ' H' => ∃ x : Int, σ' = [some (.ref p), some (.int m), none, some (.int t), some (.int x), none, none, none] ∧ H' c = some (.lst (ns.map V.int)) ∧ H' p = some (.dK (penK c (t + 1) r)) ∧ Sb p H H') ?_ ?_
      · walk_at "xu"
        refine s_nu fun l0 hl0 => ?_
        have hc1 : upd (upd H p (.dK (penK c (t + 1) r))) l0 (.lst []) c = some (.lst (ns.map V.int)) := by walk_at "hp"
        have hp1 : upd (upd H p (.dK (penK c (t + 1) r))) l0 (.lst []) p = some (.dK (penK c (t + 1) r)) := by walk_at "hp"
        have hl1 : upd (upd H p (.dK (penK c (t + 1) r))) l0 (.lst []) l0 = some (.lst []) := upd_same
        have s1 : Sb p H (upd (upd H p (.dK (penK c (t + 1) r))) l0 (.lst [])) := Sb.trans ((Sb.refl p H).pen) ((Sb.refl p _).new hl0)
        generalize upd (upd H p (.dK (penK c (t + 1) r))) l0 (.lst []) = H1 at hc1 hp1 s1 hl1
        walk_at "xu"
        refine ite2 (fun h7 => ?_) (fun h7 => ?_)
        · have hpos : 0 < ns.length := by
            cases ns with
            | nil => simp at h7
            | cons => simp
          have hm0 : (0 : Int) < ((ns.map V.int).length : Nat) := by simp; omega
          have hi := Int.emod_nonneg t (b := ((ns.map V.int).length : Nat)) (by omega)
          have hj := Int.emod_lt_of_pos t hm0
          obtain ⟨j, hje⟩ := Int.eq_ofNat_of_zero_le hi
          have hjl : j < (ns.map V.int).length := by omega
          have hat : atI (ns.map V.int) (t % ((ns.map V.int).length : Nat)) = some ((ns.map V.int)[j]) := by
            rw [hje]
            exact atI_nat (List.getElem?_eq_getElem hjl)
          rw [List.getElem_map] at hat
          walk_at "xu"
          exact ⟨_, rfl, hc1, hp1, s1⟩
        · walk_at "xu"
          exact ⟨_, rfl, hc1, hp1, s1⟩
      · rintro σ' H1 ⟨x, rfl, hc1, hp1, s1⟩
        refine s_cut (fun σ' H' => σ' = [some (.ref p), some (.int m), none, some (.int t), some (.int x), none, none, none] ∧ H' = H1) ?_ ?_
        · walk_at "xu"
          refine ite2 (fun h7 => ?_) (fun h7 => ?_)
          · walk_at "xu"
            refine ite2 (fun h8 => ?_) (fun h8 => ?_)
            · have h9 : (0 : Int) ≤ (if x < 0 then -x else x) - 10 ^ Int.toNat 18 := by
                have := of_decide_eq_true h8
                omega
              walk_at "xu"
              refine k _ _ (Int.emod_nonneg _ (by omega)) (Int.emod_lt_of_pos _ hm) s1.pen ⟨ns, t + 1, _, upd_same, upd_keep hc1 hcp, h3, by omega, by omega, Int.ediv_nonneg h9 (by omega)⟩
            · walk_at "xu"
              exact ⟨rfl, rfl⟩
          · walk_at "xu"
            exact ⟨rfl, rfl⟩
        · rintro σ' H' ⟨rfl, rfl⟩
          walk_at "xu"
          refine s_nu fun l1 hl1 => ?_
          walk_at "xu"
          obtain ⟨q1, e1, q1a, q1b⟩ := at_prime t
          obtain ⟨q2, e2, q2a, q2b⟩ := at_prime (t + 3)
          have c1 : CMul (x % q1) 69621 := Or.inr ⟨by decide, by decide⟩
          have c2 : CMul 40692 t := Or.inl ⟨by decide, by decide⟩
          have c3 : CMul (40692 * t) t := Or.inr ⟨by omega, by omega⟩
          generalize ed : (x % q1 * 69621 + 40692 * t * t + 11) % q1 = d0
          have d0a : 0 ≤ d0 := by rw [← ed]; exact Int.emod_nonneg _ (by omega)
          have d0b : d0 < q1 := by rw [← ed]; exact Int.emod_lt_of_pos _ q1a
          have c4 : CMul d0 (d0 + 48271) := Or.inl ⟨by omega, by omega⟩
          walk_at "xu"
          rw [ed]
          walk_at "xu"
          generalize ed2 : d0 * (d0 + 48271) % q2 = d2
          have d2a : 0 ≤ d2 := by rw [← ed2]; exact Int.emod_nonneg _ (by omega)
          have d2b : d2 < q2 := by rw [← ed2]; exact Int.emod_lt_of_pos _ q2a
          walk_at "xu"
          exact k _ _ (Int.emod_nonneg _ (by omega)) (Int.emod_lt_of_pos _ hm) (s1.trans ((Sb.refl p H').new hl1)) ⟨ns, t + 1, r, upd_new hp1 hl1, upd_new hc1 hl1, h3, by omega, by omega, h6⟩
theorem ok_law_pick {P : Program} {w : World} {K : PySem.W.Frag} {mg : Str → Option Value} {base : Heap} (T : Tx K mg) : FnOk P w K mg base CX0 2 T.a_law_pick T.fd_law_pick ["pen", "some"] (spPick) := by
  refine T.F_law_pick.ok sc_law_pick (fun vs H Q E h => ?_) (fun cdv A outer s H vs Q E hr h => ?_)
  · obtain ⟨p, c, s, xs, n, rfl, _⟩ := h
    rfl
  · obtain ⟨p, c, s, xs, n, rfl, hP, hn, hs, h0, h1, k⟩ := h
    refine ⟨_, (pss_one (ps_ret (pe_ix ix_list (pv 1) (pe_call (ok_law_draw T) (hr.mono (by decide)) (by rfl) T.g_law_draw T.k_law_draw T.b_law_draw .nil pass0 (pa_cons (pv 0) (pa_cons (pe_callB call_lenL (by rfl) T.z_len (by decide +kernel) (pa_cons (pv 1) pa_nil)) pa_nil))) (fun _ _ => rfl)))), ?_⟩
    walk_at "go"
    refine ⟨p, c, _, n, rfl, hP, hn, by omega, by omega, fun d H1 hd0 hd1 s1 hP1 => ?_⟩
    have hs1 := s1 _ _ (hP.ne hs) hs
    obtain ⟨v, hv, e⟩ := at_in (xs := xs) hd0 hd1
    walk_at "xu"
    exact k v H1 hv s1 hP1
theorem ok_law_pickS {P : Program} {w : World} {K : PySem.W.Frag} {mg : Str → Option Value} {base : Heap} (T : Tx K mg) : FnOk P w K mg base CX0 2 T.a_law_pick T.fd_law_pick ["pen", "some"] (spPickS) := by
  refine T.F_law_pick.ok sc_law_pick (fun vs H Q E h => ?_) (fun cdv A outer s H vs Q E hr h => ?_)
  · obtain ⟨p, c, z, n, rfl, _⟩ := h
    rfl
  · obtain ⟨p, c, z, n, rfl, hP, hn, h0, h1, k⟩ := h
    refine ⟨_, (pss_one (ps_ret (pe_ix ix_str (pv 1) (pe_call (ok_law_draw T) (hr.mono (by decide)) (by rfl) T.g_law_draw T.k_law_draw T.b_law_draw .nil pass0 (pa_cons (pv 0) (pa_cons (pe_callB call_lenZ (by rfl) T.z_len (by decide +kernel) (pa_cons (pv 1) pa_nil)) pa_nil))) (fun _ _ => rfl)))), ?_⟩
    try dsimp only [cxOf, Cx.nox, Cx.wish]
    have hz : z.length ≤ sizeLine := by rw [sizeLine_eq]; omega
    walk_at "xu"
    refine ⟨p, c, _, n, rfl, hP, hn, by omega, by omega, fun d H1 hd0 hd1 s1 hP1 => ?_⟩
    obtain ⟨v, hv, e⟩ := at_in (xs := z.cps.toList) hd0 hd1
    walk_at "xu"
    exact k v H1 hv s1 hP1
theorem ok_law_shuffled {P : Program} {w : World} {K : PySem.W.Frag} {mg : Str → Option Value} {base : Heap} (T : Tx K mg) : FnOk P w K mg base CX0 2 T.a_law_shuffled T.fd_law_shuffled ["pen", "some"] (spShuf) := by
  refine T.F_law_shuffled.ok sc_law_shuffled (fun vs H Q E h => ?_) (fun cdv A outer s H vs Q E hr h => ?_)
  · obtain ⟨p, c, s, xs, n, rfl, _⟩ := h
    rfl
  · obtain ⟨p, c, s, xs, n, rfl, hP, hn, hs, h0, k⟩ := h
    refine ⟨_, (pss_cons (ps_par (i := 2) (j := 3) (by rfl) (sc_law_shuffled).nd rfl rfl (by decide) rfl rfl (pa_cons (pe_callTy call_lstOf (by rfl) T.z_list (by decide +kernel) (pa_cons (pv 1) pa_nil)) (pa_cons (pe_lst pa_nil) pa_nil)) (by rfl))
      (pss_cons (ps_while PassesOwn.never (pt_cmpR (op_neNil hr.units0) (pv 2) (pe_lst pa_nil) (nomark _))
      (pss_one (ps_expr (pe_bm PySem.F.plainAttrs_list PySem.F.slot_list_append PySem.F.type_list_append mt_append (pv 3) (pa_cons (pe_bm PySem.F.plainAttrs_list PySem.F.slot_list_pop PySem.F.type_list_pop mt_popAt (pv 2) (pa_cons (pe_call (ok_law_draw T) (hr.mono (by decide)) (by rfl) T.g_law_draw T.k_law_draw T.b_law_draw .nil pass0 (pa_cons (pv 0) (pa_cons (pe_callB call_lenL (by rfl) T.z_len (by decide +kernel) (pa_cons (pv 2) pa_nil)) pa_nil))) pa_nil)) pa_nil)))))
      (pss_one (ps_ret (pv 3))))), ?_⟩
    walk_at "go"
    refine s_nu fun l hl => ?_
    walk_at "xu"
    refine s_nu fun f hf => ?_
    have hlf : f ≠ l := by
      intro z
      rw [z, upd_same] at hf
      cases hf
    have hfn : H f = none := free_upd hf
    have hlp : l ≠ p := hP.neN hl
    have hfp : f ≠ p := hP.neN hfn
    walk_at "xu"
    refine s_while (fun m σ H' => ∃ ys zs : List V, σ = [some (.ref p), some (.ref s), some (.ref l), some (.ref f)] ∧ H' l = some (.lst ys) ∧ H' f = some (.lst zs) ∧ m = ys.length ∧ (zs ++ ys).Perm xs ∧ Sb p H H' ∧ Pen H' p c (n + zs.length)) xs.length
      ⟨xs, [], rfl, by walk_at "hp", upd_same, rfl, List.Perm.refl _, ((Sb.refl p H).new hl).new hfn, (hP.new hl).new hf⟩ ?_
    rintro m σ H1 ⟨ys, zs, rfl, h1, h2, rfl, hpm, s1, hP1⟩
    have hlen : zs.length + ys.length = xs.length := by
      rw [← List.length_append]; exact hpm.length_eq
    walk_at "xu"
    refine s_nu fun l0 hl0 => ?_
    have h1' : upd H1 l0 (.lst []) l = some (.lst ys) := by walk_at "hp"
    have h2' : upd H1 l0 (.lst []) f = some (.lst zs) := by walk_at "hp"
    have h3' : upd H1 l0 (.lst []) l0 = some (.lst []) := upd_same
    have s1' : Sb p H (upd H1 l0 (.lst [])) := s1.trans ((Sb.refl p H1).new hl0)
    have hP1' := hP1.new hl0 (o := .lst [])
    generalize upd H1 l0 (.lst []) = H2 at h1' h2' h3' s1' hP1'
    walk_at "xu"
    refine ite2 (fun h7 => ?_) (fun h7 => ?_)
    · have hpos : 0 < ys.length := by
        cases ys with
        | nil => simp at h7
        | cons => simp
      walk_at "xu"
      refine ⟨p, c, _, n + zs.length, rfl, hP1', by omega, by omega, by omega, fun d H3 hd0 hd1 s3 hP3 => ?_⟩
      have h13 := s3 _ _ hlp h1'
      have h23 := s3 _ _ hfp h2'
      have hdl : d.toNat < ys.length := by omega
      walk_at "xu"
      refine s_popAt h13 (by omega) (by omega) (seqIx hd0 hd1) (List.getElem?_eq_getElem hdl) ?_
      refine s_muU ?_
      have h24 : upd H3 l (.lst (ys.eraseIdx d.toNat)) f = some (.lst zs) := upd_keep h23 hlf
      have hz : zs.length < sizeLine := by rw [sizeLine_eq]; omega
      walk_at "xu"
      refine ⟨_, ?_, ys.eraseIdx d.toNat, zs ++ [ys[d.toNat]], rfl, ?_, upd_same, rfl, ?_, ?_, ?_⟩
      · rw [List.length_eraseIdx]
        simp only [hdl, if_true]
        omega
      · exact upd_keep upd_same (Ne.symm hlf)
      · refine List.Perm.trans ?_ hpm
        rw [List.append_assoc]
        refine List.Perm.append_left zs ?_
        exact perm_cons_erase hdl
      · intro b u hb e
        have e1 := s1' b u hb e
        have e3 := s3 b u hb e1
        have n1 : b ≠ l := ne_of_none e hl
        have n2 : b ≠ f := ne_of_none e hfn
        rw [upd_ne n2, upd_ne n1]
        exact e3
      · have e4 : n + (zs ++ [ys[d.toNat]]).length = n + zs.length + 1 := by simp; omega
        rw [e4]
        exact (hP3.upd hlp (hP.neC hl)).upd hfp (hP.neC hfn)
    · have y0 : ys = [] := by
        cases ys with
        | nil => rfl
        | cons => simp at h7
      subst y0
      walk_at "xu"
      refine k f zs _ hfn h2' (by simpa using hpm) s1' ?_
      have : n + xs.length = n + zs.length := by simp at hlen; omega
      rw [this]
      exact hP1'
end LH
end
section
set_option maxRecDepth 100000
set_option maxHeartbeats 4000000
namespace LH
open PySem L2
local macro_rules | `(tactic| walk_at "ne") => `(tactic| first
  | assumption
  | (refine' Ne.symm ?hz; (case hz => assumption)))
local macro_rules | `(tactic| walk_at "hp") => `(tactic| first
  | assumption
  | exact upd_same
  | (refine' Same.look (by assumption) ?hz; (case hz => walk_at "hp"))
  | (refine' Sb.look (by assumption) ?hn ?hz; (case hn => walk_at "ne"); (case hz => walk_at "hp"))
  | (refine' upd_new ?hz (by assumption); (case hz => walk_at "hp"))
  | (refine' upd_keep ?hz (by assumption); (case hz => walk_at "hp"))
  | (refine' upd_keep' ?hz (by assumption); (case hz => walk_at "hp")))
local macro_rules | `(tactic| walk_at "sb") => `(tactic| first
  | assumption
  | exact Sb.refl _ _
  | exact Same.refl _
  | (refine' Sb.of_same ?hz; (case hz => assumption))
  | (refine' Sb.trans ?hz (Sb.of_same (by assumption)); (case hz => walk_at "sb"))
  | (refine' Sb.trans ?hz (by assumption); (case hz => walk_at "sb"))
  | (refine' Sb.mut ?hz (by assumption) ?hn; (case hz => walk_at "sb"); (case hn => walk_at "fr"))
  | (refine' Same.trans ?hz (by assumption); (case hz => walk_at "sb"))
  | (refine' Same.mut ?hz (by assumption) ?hn; (case hz => walk_at "sb"); (case hn => walk_at "fr")))
local macro_rules | `(tactic| walk_at "fr") => `(tactic| first
  | assumption
  | (refine' Same.free' (by assumption) ?hz; (case hz => walk_at "fr"))
  | (refine' Sb.free (by assumption) ?hn ?hz; (case hz => walk_at "fr"); (case hn => walk_at "ne")))
local macro_rules | `(tactic| walk_at "pn") => `(tactic| first
  | assumption
  | (refine' Pen.same ?hz (by assumption); (case hz => walk_at "pn"))
  | (refine' Pen.sb ?hz (by assumption) ?hn ?hm; (case hz => walk_at "pn"); (case hn => walk_at "ne"); (case hm => walk_at "ne")))
local macro_rules | `(tactic| walk_at "sq") => `(tactic| first
  | assumption
  | (refine' SqL.of ?hz; (case hz => walk_at "hp"))
  | (refine' SqT.of ?hz; (case hz => walk_at "hp"))
  | (refine' Or.inl (SqL.of ?hz); (case hz => walk_at "hp"))
  | (refine' Or.inr (SqT.of ?hz); (case hz => walk_at "hp"))
  | (refine' Or.inl ?hz; (case hz => assumption))
  | (refine' Or.inr ?hz; (case hz => assumption)))
local macro_rules | `(tactic| walk_at "ar") => `(tactic| first
  | assumption
  | decide
  | omega
  | exact ⟨by omega, by omega⟩
  | exact Or.inl ⟨by omega, by omega⟩
  | exact Or.inr ⟨by omega, by omega⟩
  | exact ⟨by decide, by decide, by decide⟩
  | exact wide_div (b := 62) (by omega) (by omega) (by decide) (by decide)
  | exact wide_div (b := 130) (by omega) (by omega) (by decide) (by decide))
local macro_rules | `(tactic| walk_at "lk") => `(tactic| first
  | assumption
  | exact sortF_rooms _ _
  | exact sortF_doors _ _
  | exact streetF_left _ _ _ _
  | exact streetF_first _ _ _ _
  | exact streetF_odd _ _ _ _
  | exact streetF_right _ _ _ _
  | exact sortF_no _ _ (by decide +kernel) (by decide +kernel)
  | exact streetF_no _ _ _ _ (by decide +kernel) (by decide +kernel) (by decide +kernel) (by decide +kernel))
local macro_rules | `(tactic| walk_at "x1") => `(tactic| first
  | (with_reducible refine' s_seq ?_)
  | ((with_reducible refine' s_var ?hv ?_); (case hv => exact rfl))
  | (with_reducible refine' s_c ?_)
  | (with_reducible refine' s_op ?_)
  | (with_reducible refine' s_asg ?_)
  | (with_reducible refine' s_ret ?_)
  | (with_reducible refine' s_I0 ?_)
  | ((with_reducible refine' s_I ?hc ?_); (case hc => walk_at "ar"))
  | (with_reducible refine' s_test ?_)
  | (with_reducible refine' s_bl ?_)
  | (with_reducible refine' s_ifS ?_)
  | (with_reducible refine' s_next ?_)
  | (with_reducible refine' s_dget ?_)
  | (with_reducible refine' s_cons ?_)
  | (with_reducible refine' s_nil ?_)
  | (with_reducible refine' s_CB ?_)
  | (with_reducible refine' s_lst ?_)
  | (with_reducible refine' s_tup ?_)
  | ((with_reducible refine' s_mkL ?hl ?_); (case hl => first | exact (Nat.le_of_ble_eq_true rfl) | omega))
  | ((with_reducible refine' s_mkT ?hl ?_); (case hl => first | exact (Nat.le_of_ble_eq_true rfl) | omega))
  | (with_reducible refine' s_drop ?_)
  | (with_reducible refine' s_and ?_)
  | (with_reducible refine' s_or ?_)
  | (with_reducible refine' s_not ?_)
  | (with_reducible refine' s_if ?_)
  | (with_reducible refine' s_un ?_)
  | (with_reducible refine' s_rU ?_)
  | (with_reducible refine' s_B ?_)
  | (with_reducible refine' s_yes ?_)
  | (with_reducible refine' s_andV ?_)
  | (with_reducible refine' s_orV ?_)
  | (with_reducible refine' s_notV ?_)
  | (with_reducible refine' s_chain ?_)
  | (with_reducible refine' s_disp ?_)
  | (with_reducible refine' s_pcons ?_)
  | (with_reducible refine' s_pnil ?_)
  | (with_reducible refine' s_dput ?_)
  | (with_reducible refine' s_sl ?_)
  | (with_reducible refine' s_noPart ?_)
  | (with_reducible refine' s_part ?_)
  | (with_reducible refine' s_pt ?_)
  | (with_reducible refine' s_bm ?_)
  | (with_reducible refine' s_bm0 ?_)
  | (with_reducible refine' s_fld ?_)
  | (with_reducible refine' s_fldS ?_)
  | (with_reducible refine' s_par ?_)
  | (with_reducible refine' s_pair ?_)
  | (with_reducible refine' s_par3 ?_)
  | (with_reducible refine' s_tri ?_)
  | (with_reducible refine' s_asgT ?_)
  | (with_reducible refine' s_gName ?_)
  | (with_reducible refine' s_gNil ?_)
  | (with_reducible refine' s_gCons ?_)
  | (with_reducible refine' s_retN ?_)
  | (with_reducible refine' s_call1 ?_)
  | (with_reducible refine' s_eqI ?_)
  | (with_reducible refine' s_neI ?_)
  | (with_reducible refine' s_eqS ?_)
  | (with_reducible refine' s_neS ?_)
  | (with_reducible refine' s_abs ?_)
  | (with_reducible refine' s_strS ?_)
  | (with_reducible refine' s_wt ?_)
  | (with_reducible refine' s_forR ?_)
  | (with_reducible refine' s_forL ?_)
  | (with_reducible refine' s_lcR ?_)
  | (with_reducible refine' s_lcL ?_)
  | (with_reducible refine' s_lcT ?_)
  | (with_reducible refine' s_m1 ?_)
  | (with_reducible refine' s_str ?_)
  | (with_reducible refine' s_gSub ?_)
  | (with_reducible refine' s_dnew ?_)
  | (with_reducible refine' s_lcS ?_)
  | (with_reducible refine' s_make ?_)
  | (with_reducible refine' s_intI ?_)
  | ((with_reducible refine' s_gTup ?hs ?hl ?_); (case hs => walk_at "sq"); (case hl => exact rfl))
  | (with_reducible refine' s_itT ?_)
  | (with_reducible refine' s_itF ?_)
  | ((with_reducible refine' s_dgetS ?hp ?he ?_); (case hp => walk_at "hp"); (case he => first | exact penK_rest _ _ _ | exact penK_turn _ _ _ | exact penK_cells _ _ _ | exact sortK_rooms _ _ | exact sortK_doors _ _ | exact streetK_left _ _ _ _ | exact streetK_first _ _ _ _ | exact streetK_odd _ _ _ _ | exact streetK_right _ _ _ _ | assumption))
  | ((with_reducible refine' s_dputS ?hp ?he ?hl ?_); (case hp => walk_at "hp"); (case he => first | exact put_turn _ _ _ _ | exact put_rest _ _ _ _ | exact rfl); (case hl => exact small1000 (Nat.le_of_ble_eq_true rfl)))
  | ((with_reducible refine' s_ixL ?hs ?he ?_); (case hs => walk_at "sq"); (case he => first | assumption | exact rfl))
  | ((with_reducible refine' s_ixT ?hs ?he ?_); (case hs => walk_at "sq"); (case he => first | assumption | exact rfl))
  | ((with_reducible refine' s_lenL ?hs ?_); (case hs => walk_at "sq"))
  | ((with_reducible refine' s_lenZ ?hs ?_); (case hs => assumption))
  | ((with_reducible refine' s_ixS ?hs ?he ?_); (case hs => assumption); (case he => first | assumption | exact rfl))
  | ((with_reducible refine' s_lstOf ?hs ?_); (case hs => walk_at "sq"))
  | ((with_reducible refine' s_slL ?hs ?_); (case hs => walk_at "sq"))
  | ((with_reducible refine' s_tyL ?hs ?_); (case hs => walk_at "sq"))
  | ((with_reducible refine' s_append ?hp ?hl ?_); (case hp => walk_at "hp"); (case hl => walk_at "ar"))
  | ((with_reducible refine' s_neL ?ha ?hb ?h0 ?_); (case ha => walk_at "sq"); (case hb => walk_at "sq"); (case h0 => first | exact Or.inr rfl | exact Or.inl rfl))
  | ((with_reducible refine' s_eqL ?ha ?hb ?h0 ?_); (case ha => walk_at "sq"); (case hb => walk_at "sq"); (case h0 => first | exact Or.inr rfl | exact Or.inl rfl))
  | ((with_reducible refine' s_clear ?hp ?_); (case hp => walk_at "hp"))
  | ((with_reducible refine' s_reverse ?hp ?_); (case hp => walk_at "hp"))
  | ((with_reducible refine' s_fldV ?hp ?hc ?hn ?he ?_); (case hp => walk_at "hp"); (case hc => assumption); (case hn => assumption); (case he => walk_at "lk"))
  | (with_reducible refine' s_methO ?_)
  | ((with_reducible refine' s_methV ?hp ?hn ?_); (case hp => walk_at "hp"); (case hn => walk_at "lk"))
  )
local macro_rules | `(tactic| walk_at "xs") => `(tactic| repeat (walk_at "x1"))
local macro_rules | `(tactic| walk_at "go") => `(tactic| ((try dsimp only [cxOf, Cx.nox, Cx.wish]); walk_at "xs"))
local macro_rules | `(tactic| walk_at "xu") => `(tactic| repeat (first | walk_at "x1" | (with_reducible refine' s_muU ?_)))

theorem ok_law_names {P : Program} {w : World} {K : PySem.W.Frag} {mg : Str → Option Value} {base : Heap} (T : Tx K mg) : FnOk P w K mg base CX0 3 T.a_law_names T.fd_law_names ["pen", "many"] (spNames) := by
  refine T.F_law_names.ok sc_law_names (fun vs H Q E h => ?_) (fun cdv A outer s H vs Q E hr h => ?_)
  · obtain ⟨p, c, m, n, rfl, _⟩ := h
    rfl
  · obtain ⟨p, c, m, n, rfl, hP, hn, hm, hm2, k⟩ := h
    refine ⟨_, (pss_cons (ps_if (pt_cmpR op_eq (pe_call (ok_law_draw T) (hr.mono (by decide)) (by rfl) T.g_law_draw T.k_law_draw T.b_law_draw .nil pass0 (pa_cons (pv 0) (pa_cons pe_int pa_nil))) pe_int (nomark _))
      (pss_cons (ps_set (i := 2) (sc_law_names).nd rfl (Or.inl rfl) (pe_lst (pa_cons pe_str (pa_cons pe_str (pa_cons pe_str (pa_cons pe_str (pa_cons pe_str (pa_cons pe_str (pa_cons pe_str (pa_cons pe_str (pa_cons pe_str (pa_cons pe_str pa_nil))))))))))))
      (pss_cons (ps_set (i := 3) (sc_law_names).nd rfl (Or.inl rfl) (pe_call (ok_law_draw T) (hr.mono (by decide)) (by rfl) T.g_law_draw T.k_law_draw T.b_law_draw .nil pass0 (pa_cons (pv 0) (pa_cons pe_int pa_nil))))
      (pss_one (ps_ret (pe_slice sl_list (pe_slice sl_list (pe_op op_rep (pe_op op_cat (pv 2) (pe_lst (pa_cons pe_str (pa_cons pe_str (pa_cons pe_str (pa_cons pe_str (pa_cons pe_str (pa_cons pe_str (pa_cons pe_str (pa_cons pe_str pa_nil)))))))))) pe_int) (po_some (pv 3)) po_none) po_none (po_some (pv 1)))))))
      pss_nil)
      (pss_cons (ps_set (i := 4) (sc_law_names).nd rfl (Or.inr rfl) pe_str)
      (pss_cons (ps_set (i := 5) (sc_law_names).nd rfl (Or.inl rfl) (pe_joinS pe_str (pe_lc (own := [("k", 6)]) rfl (sc_law_names).nd (pi_range1 rfl T.z_range (pa_cons (pe_op op_add pe_int (pe_call (ok_law_draw T) (hr.mono (by decide)) (by rfl) T.g_law_draw T.k_law_draw T.b_law_draw .nil pass0 (pa_cons (pv 0) (pa_cons pe_int pa_nil)))) pa_nil)) (blkOk_by (own := [("k", 6)]) (N := n_law_names) (sc := (defScope s_law_names)) (by decide +kernel)) (fun _ _ _ _ _ => (pg_name (i := 6) (sc_law_names).nd rfl (Or.inl rfl))) (fun _ _ _ _ _ => pts_nil) (fun _ _ _ _ _ => (pe_call (ok_law_pickS T) (hr.mono (by decide)) (by rfl) T.g_law_pick T.k_law_pick T.b_law_pick .nil pass0 (pa_cons (pv 0) (pa_cons (pv 4) pa_nil)))))))
      (pss_cons (ps_par3 (i := 7) (j := 8) (l := 9) (by rfl) (sc_law_names).nd rfl rfl rfl (by decide) (by decide) (by decide) rfl rfl rfl (pa_cons (pe_call (ok_law_draw T) (hr.mono (by decide)) (by rfl) T.g_law_draw T.k_law_draw T.b_law_draw .nil pass0 (pa_cons (pv 0) (pa_cons (pe_callB call_lenZ (by rfl) T.z_len (by decide +kernel) (pa_cons (pv 5) pa_nil)) pa_nil))) (pa_cons (pe_call (ok_law_draw T) (hr.mono (by decide)) (by rfl) T.g_law_draw T.k_law_draw T.b_law_draw .nil pass0 (pa_cons (pv 0) (pa_cons pe_int pa_nil))) (pa_cons (pe_call (ok_law_draw T) (hr.mono (by decide)) (by rfl) T.g_law_draw T.k_law_draw T.b_law_draw .nil pass0 (pa_cons (pv 0) (pa_cons pe_int pa_nil))) pa_nil))) (by rfl))
      (pss_cons (ps_par (i := 10) (j := 11) (by rfl) (sc_law_names).nd rfl rfl (by decide) rfl rfl (pa_cons (pe_call (ok_law_pick T) (hr.mono (by decide)) (by rfl) T.g_law_pick T.k_law_pick T.b_law_pick .nil pass0 (pa_cons (pv 0) (pa_cons (pe_lst (pa_cons pe_int (pa_cons pe_int (pa_cons pe_int (pa_cons pe_int (pa_cons pe_int (pa_cons pe_int (pa_cons pe_int (pa_cons pe_int (pa_cons pe_int (pa_cons pe_int (pa_cons pe_int (pa_cons pe_int pa_nil))))))))))))) pa_nil))) (pa_cons (pe_lst pa_nil) pa_nil)) (by rfl))
      (pss_cons (ps_for PassesOwn.never rfl (pi_range1 rfl T.z_range (pa_cons (pv 1) pa_nil)) (pg_name (i := 6) (sc_law_names).nd rfl (Or.inl rfl))
      (pss_cons (ps_set (i := 12) (sc_law_names).nd rfl (Or.inl rfl) (pe_slice sl_str (pe_slice sl_str (pv 5) (po_some (pe_op op_add (pv 7) pe_int)) po_none) po_none (po_some (pe_ix ix_list (pe_lst (pa_cons pe_int (pa_cons (pe_op op_mod (pv 6) pe_int) pa_nil))) (pv 9) (fun _ _ => rfl)))))
      (pss_one (ps_expr (pe_bm PySem.F.plainAttrs_list PySem.F.slot_list_append PySem.F.type_list_append mt_append (pv 11) (pa_cons (pe_op op_addS (pe_op op_addS (pe_slice sl_str (pv 5) po_none (po_some (pv 7))) (pe_ix ix_str (pv 4) (pe_op op_mod (pe_op op_add (pv 8) (pe_op op_mul (pv 10) (pv 6))) pe_int) (fun _ _ => rfl))) (pv 12)) pa_nil))))))
      (Evl.pss_cut (ps_if (PW.pt (pw_and (pt_cmpR op_gt (pv 7) pe_int (nomark _)) (pw_and1 (pt_cmpR op_eq (pe_call (ok_law_draw T) (hr.mono (by decide)) (by rfl) T.g_law_draw T.k_law_draw T.b_law_draw .nil pass0 (pa_cons (pv 0) (pa_cons pe_int pa_nil))) pe_int (nomark _)))))
      (pss_one (ps_asg (pe_slice sl_str (pv 5) po_none (po_some (pv 7))) (pg_sub (pv 11) (pe_call (ok_law_draw T) (hr.mono (by decide)) (by rfl) T.g_law_draw T.k_law_draw T.b_law_draw .nil pass0 (pa_cons (pv 0) (pa_cons (pv 1) pa_nil))) set_list)))
      pss_nil)
      (pss_one (ps_ret (pv 11)))))))))), ?_⟩
    walk_at "go"
    refine ⟨p, c, 7, n, rfl, hP, by omega, by decide, by decide, fun d H1 hd0 hd1 s1 hP1 => ?_⟩
    walk_at "xs"
    refine ite2 (fun h7 => ?_) (fun h7 => ?_)
    · walk_at "xs"
      refine s_no fun w H2 hw sm2 e2 => ?_
      have hwp := hP1.neN hw
      walk_at "xs"
      refine ⟨p, c, 18, n + 1, rfl, by walk_at "pn", by omega, by decide, by decide, fun t H3 ht0 ht1 s3 hP3 => ?_⟩
      have e3 : H3 w = some (.lst (words1.map V.str)) := s3.look hwp e2
      walk_at "xs"
      refine s_no fun w2 H4 hw2 sm4 e4 => ?_
      refine s_cat (xs := words1.map V.str) (zs := words2.map V.str) (by walk_at "hp") e4 (by decide) ?_
      refine s_no fun w3 H5 hw3 sm5 e5 => ?_
      walk_at "xs"
      refine s_rep (k := 2) e5 (by decide) (by decide) (by decide) ?_
      refine s_no fun w4 H6 hw4 sm6 e6 => ?_
      walk_at "xs"
      refine s_no fun w5 H7 hw5 sm7 e7 => ?_
      walk_at "xs"
      refine s_no fun w6 H8 hw6 sm8 e8 => ?_
      have e : (List.replicate (2 : Int).toNat (words1.map V.str ++ words2.map V.str)).flatten = ((words1 ++ words2) ++ (words1 ++ words2)).map V.str := rfl
      rw [cutV_to (by omega), cutV_from (by omega), e, ← List.map_drop, ← List.map_take] at e8
      have f3 : H3 w6 = none := by walk_at "fr"
      have hwp6 := hP3.neN f3
      refine k w6 _ H8 ?_ e8 ?_ ?_ (by walk_at "sb") (Pen.mono (by walk_at "pn") (by omega : n + 1 + 1 ≤ n + 20))
      · walk_at "fr"
      · have : (words1 ++ words2).length = 18 := by decide
        rw [List.length_take, List.length_drop, List.length_append, this]
        omega
      · intro z hz
        have h1 := List.mem_of_mem_drop (List.mem_of_mem_take hz)
        rw [List.mem_append] at h1
        rcases h1 with h1 | h1 <;> exact words_ok z h1
    · walk_at "xs"
      refine ⟨p, c, 8, n + 1, rfl, hP1, by omega, by decide, by decide, fun t H2 ht0 ht1 s2 hP2 => ?_⟩
      walk_at "xs"
      refine s_lcRI (fun D k acc H' => ∃ ys : List Str, acc = ys.map V.str ∧ (∀ z ∈ ys, z.length = 1 ∧ Lt z) ∧ Sb p H2 H' ∧ Pen H' p c (n + 2 + k)) (by omega) (by omega) ?_ ?_ ?_
      · intro D H3 hD sm e
        exact ⟨[], rfl, by simp, by walk_at "sb", hP2.same sm⟩
      · rintro D k acc H3 hD hk hl hA ⟨ys, rfl, h1, s3, hP3⟩
        walk_at "xs"
        refine ⟨p, c, _, n + 2 + k, rfl, hP3, by omega, ?_, ?_, fun x H4 hx s4 hP4 => ?_⟩
        · rw [letters_len]; decide
        · rw [letters_len]; decide
        · have hDp := hP2.neN hD
          refine s_acc (by walk_at "hp") hl (by omega) fun H5 s5 e5 => ?_
          refine ⟨ys ++ [⟨#[x]⟩], by simp, ?_, by walk_at "sb", hP4.sb s5 hDp (hP2.neC hD)⟩
          intro z hz
          rw [List.mem_append, List.mem_singleton] at hz
          rcases hz with hz | rfl
          · exact h1 z hz
          · refine ⟨rfl, fun y hy => ?_⟩
            have : y = x := by simpa using hy
            subst this
            exact letters_ok y hx
      · rintro D acc H3 hD hl hA ⟨ys, rfl, h1, s3, hP3⟩
        have hDp := hP2.neN hD
        have hyl : ys.length = (1 + t).toNat := by simpa using hl
        obtain ⟨b1, b2⟩ := join_ones h1
        walk_at "xs"
        refine s_join hA ?_ ?_
        · rw [sum_ones h1]
          have : (Str.ofString "").length = 0 := by decide +kernel
          rw [this]
          omega
        generalize Txt.join (Str.ofString "") ys = base at b1 b2
        have bsz : base.length ≤ sizeLine := by rw [sizeLine_eq]; omega
        walk_at "xs"
        refine ⟨p, c, _, _, rfl, hP3, by omega, by omega, by omega, fun at_ H4 ha0 ha1 s4 hP4 => ?_⟩
        walk_at "xs"
        refine ⟨p, c, _, _, rfl, hP4, by omega, by omega, by omega, fun first H5 hf0 hf1 s5 hP5 => ?_⟩
        walk_at "xs"
        refine ⟨p, c, _, _, rfl, hP5, by omega, by omega, by omega, fun cut H6 hc0 hc1 s6 hP6 => ?_⟩
        walk_at "xs"
        refine s_no fun w H7 hw sm7 e7 => ?_
        walk_at "xs"
        have hwp := hP6.neN hw
        refine ⟨p, c, w, _, _, rfl, by walk_at "pn", by omega, e7, by decide, by decide, fun v H8 hv s8 hP8 => ?_⟩
        obtain ⟨st, rfl, st0, st1⟩ : ∃ st : Int, v = .int st ∧ 0 ≤ st ∧ st ≤ 25 := by
          have z : v = .int 1 ∨ v = .int 3 ∨ v = .int 5 ∨ v = .int 7 ∨ v = .int 9 ∨ v = .int 11 ∨ v = .int 15 ∨ v = .int 17 ∨ v = .int 19 ∨ v = .int 21 ∨ v = .int 23 ∨ v = .int 25 := by simpa using hv
          rcases z with rfl | rfl | rfl | rfl | rfl | rfl | rfl | rfl | rfl | rfl | rfl | rfl <;> exact ⟨_, rfl, by decide, by decide⟩
        walk_at "xs"
        refine s_no fun q H9 hq sm9 e9 => ?_
        have hqp := hP8.neN hq
        have hqc := hP8.neC hq
        have hP9 := hP8.same sm9
        have hH1 : H1 q = none := by
          have a1 : H7 q = none := s8.free hqp hq
          have a2 : H6 q = none := Same.free' sm7 a1
          exact s2.free hqp (s3.free hqp (s4.free hqp (s5.free hqp (s6.free hqp a2))))
        have hHq : H q = none := s1.free hqp hH1
        have sH9 : Sb p H H9 := by walk_at "sb"
        clear s8 sm9 sm7 s6 s5 s4 s3 s2 e7 hw hwp hA hD hDp
        walk_at "xs"
        have b1' : base.length ≤ 8 := by omega
        refine s_forRI (fun i σ H' => ∃ (kv tv : Option V) (zs : List Str), σ = [some (.ref p), some (.int m), none, none, some (.str "abcdefghijklmnopqrstuvwxyz"), some (.str base), kv, some (.int at_), some (.int first), some (.int cut), some (.int st), some (.ref q), tv] ∧
          H' q = some (.lst (zs.map V.str)) ∧ zs.length = i ∧ (∀ z ∈ zs, Nm z) ∧ Sb q H9 H') (by omega) (by omega) ⟨none, none, [], rfl, e9, rfl, by simp, Sb.refl _ _⟩ ?_ ?_
        · rintro i σ H10 hi ⟨kv, tv, zs, rfl, hz, hl, hN, s10⟩
          walk_at "xs"
          refine s_slS bsz ?_
          walk_at "xs"
          refine s_no fun w2 H11 hw2 sm11 e11 => ?_
          obtain ⟨x, ex, hx⟩ := at_two (a := 8) (b := (i : Int) % 3) hc0 hc1
          have hx0 : 0 ≤ x := by rcases hx with rfl | rfl <;> omega
          walk_at "xs"
          have l1 : (cutS base (some (at_ + 1)) none).length = base.length - (at_ + 1).toNat := cutS_from (by omega) (by omega)
          have l2 := cutS_length (cutS base (some (at_ + 1)) none) none (some x)
          refine s_slS (small16 (by omega)) ?_
          have t2 : Lt (cutS (cutS base (some (at_ + 1)) none) none (some x)) := (b2.cut _ _).cut _ _
          generalize cutS (cutS base (some (at_ + 1)) none) none (some x) = tail at l2 t2
          have hq11 : H11 q = some (.lst (zs.map V.str)) := by walk_at "hp"
          walk_at "xs"
          refine s_slS bsz ?_
          have l3 : (cutS base none (some at_)).length = at_.toNat := cutS_to ha0 (by omega)
          have t3 : Lt (cutS base none (some at_)) := b2.cut _ _
          generalize cutS base none (some at_) = hd at l3 t3
          have cm : CMul st (i : Int) := Or.inl ⟨by omega, by omega⟩
          obtain ⟨ch, hch, ech⟩ := at_in (xs := (Str.ofString "abcdefghijklmnopqrstuvwxyz").cps.toList) (i := (first + st * (i : Int)) % 26) (Int.emod_nonneg _ (by decide)) (by rw [lenL, letters_len]; exact Int.emod_lt_of_pos _ (by decide))
          have lsz : (Str.ofString "abcdefghijklmnopqrstuvwxyz").length ≤ sizeLine := small16 (by rw [letters_len]; decide)
          walk_at "xs"
          refine s_addS (small16 (by rw [len1]; omega)) ?_
          walk_at "xs"
          refine s_addS (small16 (by rw [len_app, len1]; omega)) ?_
          have hz9 : (zs.map V.str).length < sizeLine := by rw [List.length_map, sizeLine_eq]; omega
          walk_at "xs"
          refine s_mu fun H12 s12 e12 => ?_
          refine ⟨_, _, zs ++ [hd ++ ⟨#[ch]⟩ ++ tail], rfl, by rw [e12]; simp, by simp [hl], ?_, (s10.trans (Sb.of_same sm11)).trans s12⟩
          intro z hzz
          rw [List.mem_append, List.mem_singleton] at hzz
          rcases hzz with hzz | rfl
          · exact hN z hzz
          · refine ⟨by rw [len_app, len_app, len1]; omega, by rw [len_app, len_app, len1]; omega, (t3.app (Lt.one (letters_ok ch hch))).app t2⟩
        · rintro σ H10 ⟨kv, tv, zs, rfl, hz, hl, hN, s10⟩
          have hP10 := hP9.sb s10 hqp hqc
          have sH10 : Sb p H H10 := sH9.mut s10 hHq
          refine s_cut (fun σ' H' => ∃ (ys : List Str), σ' = [some (.ref p), some (.int m), none, none, some (.str "abcdefghijklmnopqrstuvwxyz"), some (.str base), kv, some (.int at_), some (.int first), some (.int cut), some (.int st), some (.ref q), tv] ∧
            H' q = some (.lst (ys.map V.str)) ∧ ys.length = m.toNat ∧ (∀ z ∈ ys, Nm z) ∧ Sb p H H' ∧ Pen H' p c (n + 20)) ?_ ?_
          · walk_at "xs"
            refine ite2 (fun h8 => ?_) (fun h8 => ?_)
            · walk_at "xs"
              refine ⟨p, c, _, _, rfl, hP10, by omega, by decide, by decide, fun d2 H11 _ _ s11 hP11 => ?_⟩
              walk_at "xs"
              have z11 : H11 q = some (.lst (zs.map V.str)) := s11.look hqp hz
              have sH11 : Sb p H H11 := sH10.trans s11
              refine ite2 (fun h9 => ?_) (fun h9 => ?_)
              · walk_at "xs"
                refine s_slS bsz ?_
                walk_at "xs"
                refine ⟨p, c, _, _, rfl, hP11, by omega, by omega, by omega, fun d3 H12 d30 d31 s12 hP12 => ?_⟩
                have l3 : (cutS base none (some at_)).length = at_.toNat := cutS_to ha0 (by omega)
                have hpos : 0 < at_ := of_decide_eq_true h8
                refine s_setL (s12.look hqp z11) (ixN_of d30 (by rw [List.length_map]; omega)) ?_
                refine s_mu fun H13 s13 e13 => ?_
                refine ⟨zs.set d3.toNat (cutS base none (some at_)), rfl, by rw [e13, List.map_set], by rw [List.length_set]; exact hl, ?_, (sH11.trans s12).mut s13 hHq, (hP12.sb s13 hqp hqc).mono (by omega)⟩
                intro z hzz
                rcases List.mem_or_eq_of_mem_set hzz with h | rfl
                · exact hN z h
                · exact ⟨by omega, by omega, b2.cut _ _⟩
              · walk_at "xs"
                exact ⟨zs, rfl, z11, hl, hN, sH11, hP11.mono (by omega)⟩
            · walk_at "xs"
              exact ⟨zs, rfl, hz, hl, hN, sH10, hP10.mono (by omega)⟩
          · rintro σ' H11 ⟨ys, rfl, g1, g2, g3, g4, g5⟩
            walk_at "xs"
            exact k q ys H11 hHq g1 g2 g3 g4 g5
end LH
end
section
set_option maxRecDepth 100000
set_option maxHeartbeats 4000000
namespace LH
open PySem L2 LP
theorem lk_law_pen {P : Program} {w : World} {K : PySem.W.Frag} {mg : Str → Option Value} {base : Heap} (T : Tx K mg) : FnOk P w K mg base CX0 1 T.a_law_pen T.fd_law_pen ["script"] (spL false (lPen K)) :=
  (ok_law_pen T).imp fun _ _ _ _ h => pen_l h
theorem lk_law_draw {P : Program} {w : World} {K : PySem.W.Frag} {mg : Str → Option Value} {base : Heap} (T : Tx K mg) : FnOk P w K mg base CX0 1 T.a_law_draw T.fd_law_draw ["pen", "many"] (spL true (lDraw)) :=
  (ok_law_draw T).imp fun _ _ _ _ h => draw_l h
theorem lk_law_pick {P : Program} {w : World} {K : PySem.W.Frag} {mg : Str → Option Value} {base : Heap} (T : Tx K mg) : FnOk P w K mg base CX0 2 T.a_law_pick T.fd_law_pick ["pen", "some"] (spL true (lPick)) :=
  (ok_law_pick T).imp fun _ _ _ _ h => pick_l h
theorem lk_law_pickS {P : Program} {w : World} {K : PySem.W.Frag} {mg : Str → Option Value} {base : Heap} (T : Tx K mg) : FnOk P w K mg base CX0 2 T.a_law_pick T.fd_law_pick ["pen", "some"] (spL true (lPickS)) :=
  (ok_law_pickS T).imp fun _ _ _ _ h => pickS_l h
theorem lk_law_shuffled {P : Program} {w : World} {K : PySem.W.Frag} {mg : Str → Option Value} {base : Heap} (T : Tx K mg) : FnOk P w K mg base CX0 2 T.a_law_shuffled T.fd_law_shuffled ["pen", "some"] (spL true (lShuf)) :=
  (ok_law_shuffled T).imp fun _ _ _ _ h => shuf_l h
theorem lk_law_names {P : Program} {w : World} {K : PySem.W.Frag} {mg : Str → Option Value} {base : Heap} (T : Tx K mg) : FnOk P w K mg base CX0 3 T.a_law_names T.fd_law_names ["pen", "many"] (spL true (lNames)) :=
  (ok_law_names T).imp fun _ _ _ _ h => names_l h
end LH
end
section
set_option maxRecDepth 100000
set_option maxHeartbeats 4000000
namespace LH
open PySem L2 LP
local macro_rules | `(tactic| walk_at "nf") => `(tactic| ((try simp only [List.set_cons_zero, List.set_cons_succ, List.set_nil, wipeE]); exact rfl))
local macro_rules | `(tactic| walk_at "dg") => `(tactic| first | assumption | exact rfl)
local macro_rules | `(tactic| walk_at "y1") => `(tactic| first
  | (with_reducible refine' w_seq ?_)
  | ((with_reducible refine' w_var ?e ?_); (case e => exact rfl))
  | (with_reducible refine' w_c ?_)
  | (with_reducible refine' w_op ?_)
  | ((with_reducible refine' w_kop ?e1 ?e2 ?_); (case e1 => exact rfl); (case e2 => exact rfl))
  | (with_reducible refine' w_un ?_)
  | ((with_reducible refine' w_kun ?e1 ?_); (case e1 => exact rfl))
  | (with_reducible refine' w_nil ?_)
  | (with_reducible refine' w_cons ?_)
  | (with_reducible refine' w_cb ?_)
  | ((with_reducible refine' w_kcb ?e ?_); (case e => exact rfl))
  | (with_reducible refine' w_lst ?_)
  | ((with_reducible refine' w_klst ?e ?l ?_); (case e => exact rfl); (case l => first | exact (Nat.le_of_ble_eq_true rfl) | (simp only [List.length_cons, List.length_nil]; omega)))
  | (with_reducible refine' w_tup ?_)
  | ((with_reducible refine' w_ktup ?e ?l ?_); (case e => exact rfl); (case l => first | exact (Nat.le_of_ble_eq_true rfl) | (simp only [List.length_cons, List.length_nil]; omega)))
  | (with_reducible refine' w_test ?_)
  | (with_reducible refine' w_kbl ?_)
  | (with_reducible refine' w_tru ?_)
  | (with_reducible refine' w_and ?_)
  | (with_reducible refine' w_or ?_)
  | (with_reducible refine' w_not ?_)
  | (with_reducible refine' w_yes ?_)
  | (with_reducible refine' w_andV ?_)
  | (with_reducible refine' w_orV ?_)
  | (with_reducible refine' w_notV ?_)
  | (with_reducible refine' w_if ?_)
  | (with_reducible refine' w_chain ?_)
  | ((with_reducible refine' w_kch1 ?e1 ?e2 ?_); (case e1 => exact rfl); (case e2 => exact rfl))
  | (with_reducible refine' w_dget ?_)
  | ((with_reducible refine' w_kdget ?e1 ?e2 ?e3 ?_); (case e1 => exact rfl); (case e2 => exact rfl); (case e3 => walk_at "dg"))
  | (with_reducible refine' w_din ?_)
  | ((with_reducible refine' w_kdin ?e1 ?e2 ?e3 ?_); (case e1 => exact rfl); (case e2 => exact rfl); (case e3 => walk_at "dg"))
  | ((with_reducible refine' w_kdnotin ?e1 ?e2 ?e3 ?_); (case e1 => exact rfl); (case e2 => exact rfl); (case e3 => walk_at "dg"))
  | (with_reducible refine' w_dnew ?_)
  | (with_reducible refine' w_dnewT ?_)
  | (with_reducible refine' w_fld ?_)
  | ((with_reducible refine' w_kfld ?e ?c ?n ?e2 ?_); (case e => exact rfl); (case c => assumption); (case n => assumption); (case e2 => walk_at "lk"))
  | (with_reducible refine' w_sl ?_)
  | (with_reducible refine' w_noPart ?_)
  | (with_reducible refine' w_part ?_)
  | ((with_reducible refine' w_kpart ?e ?_); (case e => exact rfl))
  | ((with_reducible refine' w_ksl ?e ?_); (case e => exact rfl))
  | (with_reducible refine' w_vslL ?_)
  | (with_reducible refine' w_rev ?_)
  | ((with_reducible refine' w_krev ?e ?_); (case e => exact rfl))
  | (with_reducible refine' w_revT ?_)
  | ((with_reducible refine' w_krevT ?e ?_); (case e => exact rfl))
  | ((with_reducible refine' v_catA ?l ?_); (case l => walk_at "ln"))
  | (with_reducible refine' v_slA ?_)
  | ((with_reducible refine' v_isi_int ?h ?_); (case h => walk_at "kn"))
  | ((with_reducible refine' v_isi_bool ?h ?_); (case h => walk_at "kn"))
  | ((with_reducible refine' v_isi_str ?h ?_); (case h => walk_at "kn"))
  | ((with_reducible refine' v_isi_tup ?h ?_); (case h => walk_at "kn"))
  | ((with_reducible refine' v_isi_lst ?h ?_); (case h => walk_at "kn"))
  | (with_reducible refine' w_inRg ?_)
  | ((with_reducible refine' w_kinRgN ?e1 ?e2 ?_); (case e1 => exact rfl); (case e2 => exact rfl))
  | ((with_reducible refine' w_kinRg ?e1 ?e2 ?_); (case e1 => exact rfl); (case e2 => exact rfl))
  | (with_reducible refine' w_call0X ?_)
  | ((with_reducible refine' w_kcall0X ?e ?_); (case e => exact rfl))
  | (with_reducible refine' w_call1X ?_)
  | ((with_reducible refine' w_kcall1X ?e ?e2 ?_); (case e => exact rfl); (case e2 => exact rfl))
  | (with_reducible refine' w_meth1X ?_)
  | ((with_reducible refine' w_kmeth1X ?e ?o ?_); (case e => exact rfl); (case o => walk_at "op"))
  | (with_reducible refine' w_methTX ?_)
  | ((with_reducible refine' w_kmethTX ?o ?_); (case o => walk_at "op"))
  | ((with_reducible refine' w_kcallTX ?e ?_); (case e => exact rfl))
  | (with_reducible refine' w_raise ?_)
  | ((with_reducible refine' w_kraise ?e ?e2 ?l1 ?l2 ?e3 ?_); (case e => exact rfl); (case e2 => exact rfl); (case l1 => exact rfl); (case l2 => exact (Nat.le_of_ble_eq_true rfl)); (case e3 => exact rfl))
  | (with_reducible refine' w_try ?_)
  | (with_reducible refine' w_snx ?_)
  | (with_reducible refine' w_srt ?_)
  | ((with_reducible refine' w_behind ?k ?e ?_); (case k => walk_at "cx"); (case e => walk_at "nc"))
  | ((with_reducible refine' w_behindR ?k ?n ?e ?_); (case k => walk_at "cx"); (case n => exact (fun _ _ _ _ z => PV.noConfusion z)); (case e => walk_at "nc"))
  | (with_reducible refine' w_xf ?_)
  | ((with_reducible refine' w_kxf ?e ?_); (case e => walk_at "lk"))
  | (with_reducible refine' w_xk ?_)
  | ((with_reducible refine' w_kxk ?e ?x ?n ?e2 ?_); (case e => exact rfl); (case x => assumption); (case n => assumption); (case e2 => walk_at "lk"))
  | (with_reducible refine' w_bm ?_)
  | ((with_reducible refine' w_kbm1 ?e ?t ?_); (case e => exact rfl); (case t => exact rfl))
  | ((with_reducible refine' w_kbm2 ?e ?e2 ?_); (case e => exact rfl); (case e2 => exact rfl))
  | (with_reducible refine' w_m1 ?_)
  | (with_reducible refine' w_kstr ?_)
  | ((with_reducible refine' w_km1 ?e ?_); (case e => exact rfl))
  | (with_reducible refine' w_next ?_)
  | (with_reducible refine' w_break ?_)
  | (with_reducible refine' w_cont ?_)
  | (with_reducible refine' w_ifS ?_)
  | (with_reducible refine' w_ret ?_)
  | (with_reducible refine' w_retN ?_)
  | (with_reducible refine' w_drop ?_)
  | (with_reducible refine' w_asg ?_)
  | ((with_reducible refine' w_kasg ?e ?e2 ?_); (case e => exact rfl); (case e2 => walk_at "nf"))
  | (with_reducible refine' w_asgG ?_)
  | ((with_reducible refine' w_kasgG ?e ?_); (case e => exact rfl))
  | ((with_reducible refine' w_gName ?e ?_); (case e => walk_at "nf"))
  | (with_reducible refine' w_gNil ?_)
  | (with_reducible refine' w_gCons ?_)
  | ((with_reducible refine' w_gTup ?l ?_); (case l => exact rfl))
  | (with_reducible refine' w_par ?_)
  | ((with_reducible refine' w_kpar ?e1 ?e2 ?n ?e3 ?_); (case e1 => exact rfl); (case e2 => exact rfl); (case n => exact (fun _ z => PV.noConfusion z)); (case e3 => walk_at "nf"))
  | (with_reducible refine' w_get1 ?_)
  | ((with_reducible refine' w_kget1 ?e ?_); (case e => exact rfl))
  | ((with_reducible refine' w_kget2 ?e1 ?e2 ?e3 ?_); (case e1 => exact rfl); (case e2 => exact rfl); (case e3 => exact rfl))
  | (with_reducible refine' w_parS ?_)
  | ((with_reducible refine' w_kparS ?e1 ?e2 ?n ?e3 ?_); (case e1 => exact rfl); (case e2 => exact rfl); (case n => exact (fun _ z => PV.noConfusion z)); (case e3 => walk_at "nf"))
  | (with_reducible refine' w_par3 ?_)
  | ((with_reducible refine' w_kpar3 ?n1 ?n2 ?e1 ?e2 ?e3 ?e4 ?_); (case n1 => exact (fun _ z => PV.noConfusion z)); (case n2 => exact (fun _ z => PV.noConfusion z)); (case e1 => exact rfl); (case e2 => exact rfl); (case e3 => exact rfl); (case e4 => walk_at "nf"))
  | (with_reducible refine' w_mut ?_)
  | ((with_reducible refine' w_kmut1 ?e ?_); (case e => exact rfl))
  | ((with_reducible refine' w_kmut2 ?e ?e2 ?_); (case e => exact rfl); (case e2 => exact rfl))
  | (with_reducible refine' w_mut0 ?_)
  | ((with_reducible refine' w_kmut0 ?e ?_); (case e => exact rfl))
  | ((with_reducible refine' w_append ?l ?_); (case l => walk_at "ln"))
  | (with_reducible refine' w_clear ?_)
  | (with_reducible refine' w_reverse ?_)
  | (with_reducible refine' w_dput ?_)
  | ((with_reducible refine' w_kdput ?e1 ?e2 ?e3 ?e4 ?l ?e5 ?_); (case e1 => exact rfl); (case e2 => exact rfl); (case e3 => exact rfl); (case e4 => walk_at "dg"); (case l => walk_at "ln"); (case e5 => walk_at "nf"))
  | (with_reducible refine' w_setL ?_)
  | ((with_reducible refine' w_ksetL1 ?e ?_); (case e => exact rfl))
  | ((with_reducible refine' w_aug ?e ?_); (case e => exact rfl))
  | ((with_reducible refine' w_kaug ?e1 ?e2 ?_); (case e1 => exact rfl); (case e2 => exact rfl))
  | (with_reducible refine' w_ksh ?_)
  | ((with_reducible refine' w_kset ?e ?_); (case e => walk_at "nf"))
  | (with_reducible refine' w_call0 ?_)
  | ((with_reducible refine' w_kcall0 ?e ?_); (case e => exact rfl))
  | (with_reducible refine' w_call1 ?_)
  | (with_reducible refine' w_khd ?_)
  | ((with_reducible refine' w_kcall1 ?e ?e2 ?_); (case e => exact rfl); (case e2 => exact rfl))
  | (with_reducible refine' w_meth0 ?_)
  | ((with_reducible refine' w_kmeth0 ?e ?e2 ?_); (case e => exact rfl); (case e2 => walk_at "lk"))
  | (with_reducible refine' w_meth1 ?_)
  | ((with_reducible refine' w_kmeth1 ?e ?o ?_); (case e => exact rfl); (case o => walk_at "op"))
  | (with_reducible refine' w_methT ?_)
  | ((with_reducible refine' w_kmethT ?o ?_); (case o => walk_at "op"))
  | ((with_reducible refine' w_kcallT ?e ?_); (case e => exact rfl))
  | (with_reducible refine' w_make ?_)
  | ((with_reducible refine' w_kmake ?e ?_); (case e => exact rfl))
  | ((with_reducible refine' w_end ?e1 ?e2 ?_); (case e1 => exact rfl); (case e2 => exact rfl))
  | (with_reducible refine' w_for ?_)
  | (with_reducible refine' w_list ?_)
  | ((with_reducible refine' w_kli ?e ?_); (case e => exact rfl))
  | (with_reducible refine' w_tupI ?_)
  | ((with_reducible refine' w_kti ?e ?_); (case e => exact rfl))
  | (with_reducible refine' w_sq ?_)
  | ((with_reducible refine' w_ksq ?e ?e2 ?_); (case e => exact rfl); (case e2 => exact rfl))
  | (with_reducible refine' w_rng1 ?_)
  | ((with_reducible refine' w_kr1 ?e ?b ?_); (case e => exact rfl); (case b => walk_at "ar"))
  | (with_reducible refine' w_rng2 ?_)
  | ((with_reducible refine' w_kr2 ?e ?b ?_); (case e => exact rfl); (case b => walk_at "ar"))
  | (with_reducible refine' w_strI ?_)
  | ((with_reducible refine' w_ksti ?e ?_); (case e => exact rfl))
  | (with_reducible refine' w_enumI ?_)
  | ((with_reducible refine' w_keni ?e ?_); (case e => exact rfl))
  | ((with_reducible refine' w_lc ?e ?_); (case e => ((simp only [List.map_cons, List.map_nil]); exact rfl)))
  | ((with_reducible refine' w_dc ?e ?_); (case e => ((simp only [List.map_cons, List.map_nil]); exact rfl)))
  | ((with_reducible refine' w_kditem ?e ?e1 ?e2 ?hk ?e3 ?_); (case e => exact rfl); (case e1 => exact rfl); (case e2 => exact rfl); (case hk => exact rfl); (case e3 => walk_at "nf"))
  | (with_reducible refine' w_listVals ?_)
  | ((with_reducible refine' w_kvals ?e ?_); (case e => exact rfl))
  | ((with_reducible refine' w_kitem ?e ?hk ?e2 ?_); (case e => exact rfl); (case hk => exact rfl); (case e2 => walk_at "nf"))
  | ((with_reducible refine' w_kskip ?hk ?e2 ?_); (case hk => exact rfl); (case e2 => walk_at "nf"))
  | (with_reducible refine' v_int ?_)
  | ((with_reducible refine' v_intC ?c ?_); (case c => walk_at "ar"))
  | (with_reducible refine' v_cmp ?_)
  | (with_reducible refine' v_un ?_)
  | (with_reducible refine' v_eqI ?_)
  | (with_reducible refine' v_neI ?_)
  | (with_reducible refine' v_eqS ?_)
  | (with_reducible refine' v_neS ?_)
  | (with_reducible refine' v_eqNil ?_)
  | (with_reducible refine' v_neNil ?_)
  | (with_reducible refine' v_inS ?_)
  | (with_reducible refine' v_notInS ?_)
  | ((with_reducible refine' v_ixL ?e ?_); (case e => walk_at "ix"))
  | ((with_reducible refine' v_ixT ?e ?_); (case e => walk_at "ix"))
  | ((with_reducible refine' v_len ?e ?l ?_); (case e => exact rfl); (case l => walk_at "ln"))
  | (with_reducible refine' v_abs ?_)
  | ((with_reducible refine' v_min2 ?_); (intro hm hm1 hm2 hm3))
  | ((with_reducible refine' v_max2 ?_); (intro hm hm1 hm2 hm3))
  | (with_reducible refine' v_int2 ?_)
  | (with_reducible refine' w_lstRg ?_)
  | (with_reducible refine' w_rg1 ?_)
  | ((with_reducible refine' w_krg1 ?e ?_); (case e => exact rfl))
  | (with_reducible refine' w_rg2 ?_)
  | ((with_reducible refine' w_krg2 ?e ?e2 ?_); (case e => exact rfl); (case e2 => exact rfl))
  | ((with_reducible refine' w_krg ?l ?_); (case l => walk_at "ar"))
  | (with_reducible refine' v_intOfI ?_)
  | (with_reducible refine' v_intOfB ?_)
  | (with_reducible refine' v_strOf ?_)
  | ((with_reducible refine' v_lst ?e ?_); (case e => exact rfl))
  | (with_reducible refine' v_tup ?_)
  | ((with_reducible refine' v_cat ?l ?_); (case l => walk_at "ln"))
  | (with_reducible refine' v_isN ?_)
  | (with_reducible refine' v_notN ?_)
  | (with_reducible refine' w_itN ?_)
  | (with_reducible refine' w_itE ?_)
  | (with_reducible refine' w_itT ?_)
  | (with_reducible refine' w_itNT ?_)
  | (with_reducible refine' w_itNF ?_)
  | (with_reducible refine' w_itF ?_)
  | (with_reducible refine' w_itNn ?_)
  | (with_reducible refine' w_itNs ?_)
  | (with_reducible refine' w_itn ?_)
  | (with_reducible refine' w_its ?_)
  )
local macro_rules | `(tactic| walk_at "ln") => `(tactic| first | assumption | exact (Nat.le_of_ble_eq_true rfl) | omega | (simp only [List.length_map, rngT_len, List.length_append, List.length_cons, List.length_nil]; omega))
local macro_rules | `(tactic| walk_at "ix") => `(tactic| first | assumption | exact rfl | exact LP.atI_c0 _ _ | exact LP.atI_c1 _ _ _ | exact LP.atI_last _ _)
local macro_rules | `(tactic| walk_at "lk") => `(tactic| first | assumption | exact rfl)
local macro_rules | `(tactic| walk_at "op") => `(tactic| assumption)
local macro_rules | `(tactic| walk_at "nc") => `(tactic| ((try simp only [convE, convP, List.map_cons, List.map_nil, Option.map_some, Option.map_none, List.set_cons_zero, List.set_cons_succ]); exact rfl))
local macro_rules | `(tactic| walk_at "cx") => `(tactic| first | exact ⟨rfl, rfl, rfl, trivial⟩ | exact trivial | (simp [cxOk]; done))
local macro_rules | `(tactic| walk_at "kn") => `(tactic| first | assumption | (intro z; cases z))
local macro_rules | `(tactic| walk_at "ar") => `(tactic| first
  | assumption
  | decide
  | omega
  | exact ⟨by omega, by omega⟩
  | exact Or.inl ⟨by omega, by omega⟩
  | exact Or.inr ⟨by omega, by omega⟩
  | exact ⟨by decide, by decide, by decide⟩
  | (simp only [List.length_map]; omega))
local macro_rules | `(tactic| walk_at "ys") => `(tactic| repeat (walk_at "y1"))
local macro_rules | `(tactic| walk_at "yo") => `(tactic| ((refine' w_start ?e ?_); (case e => ((try simp only [startE, startT, List.map_cons, List.map_nil, List.length_cons, List.length_nil, Nat.zero_add, Nat.reduceAdd, Nat.reduceSub, List.cons_append, List.nil_append, List.reduceReplicate]); exact rfl)); walk_at "ys"))

abbrev Rw := List (Key × LP.T)
structure RowOk (b : Nat) (kt : Rw) : Prop where
  l : kt.length ≤ 6
  k : ∀ q ∈ kt, ∃ z, q.1 = .inr z ∧ Nm z
  v : ∀ q ∈ kt, ∃ i : Int, q.2 = .int i ∧ i.natAbs ≤ b
/-- each by its time -/
def numT (kt mt : Rw) (time : Int) (z : Str) : LP.T := match valT kt (.inr z) with
  | some (.int a) => if time = 0 then .int a else match valT mt (.inr z) with
    | some (.int b) => .int (a + time * b)
    | _ => .non
  | _ => .non
structure Pc where
  times : Option Int
  lane : List Rw
  more : List Rw
def timesT : Option Int → LP.T
  | none => .non
  | some t => .int t
def Pc.T (p : Pc) : LP.T := .tup [timesT p.times, .lst (p.lane.map LP.T.dic), .lst (p.more.map LP.T.dic)]
structure PcOk (p : Pc) : Prop where
  l : 1 ≤ p.lane.length ∧ p.lane.length ≤ 60
  m : p.more.length = p.lane.length
  r : ∀ kt ∈ p.lane, RowOk (10 ^ 20) kt
  s : ∀ mt ∈ p.more, RowOk (10 ^ 9) mt
  k : ∀ (i : Nat) (kt mt : Rw), p.lane[i]? = some kt → p.more[i]? = some mt → ∀ j, j ∈ kt.map Prod.fst → j ∈ mt.map Prod.fst
  t : ∀ t, p.times = some t → 1 ≤ t ∧ t ≤ 10 ^ 30
def findP : List Pc → Int → Option (Pc × Int)
  | [], _ => none
  | p :: ps, f => match p.times with
    | none => some (p, f)
    | some t => if f < t * p.lane.length then some (p, f) else findP ps (f - t * p.lane.length)
structure Tolls where
  first : Int
  stretch : List Rw
  lefts : List Pc
  rights : List Pc
def Tolls.T (n : Tolls) : LP.T := .tup [.int n.first, .lst (n.stretch.map LP.T.dic), .lst (n.lefts.map Pc.T), .lst (n.rights.map Pc.T)]
structure PcsOk (ps : List Pc) : Prop where
  n : ps.length ≤ 10
  o : ∀ p ∈ ps, PcOk p
  e : ∃ p, ps.getLast? = some p ∧ p.times = none
structure TlOk (n : Tolls) : Prop where
  f : n.first.natAbs ≤ 2000
  s : 1 ≤ n.stretch.length ∧ n.stretch.length ≤ 10
  r : ∀ kt ∈ n.stretch, RowOk (10 ^ 20) kt
  a : PcsOk n.lefts
  b : PcsOk n.rights
def nthR (xs : List Rw) (i : Int) : Rw := (xs[i.toNat]?).getD []
def pieceN (pf : Option (Pc × Int)) (z : Str) : LP.T := match pf with
  | some (p, f) => numT (nthR p.lane (f % p.lane.length)) (nthR p.more (f % p.lane.length)) (f / p.lane.length) z
  | none => .non
def numAt (n : Tolls) (h : Int) (z : Str) : LP.T :=
  if 0 ≤ h - n.first ∧ h - n.first < n.stretch.length then numT (nthR n.stretch (h - n.first)) [] 0 z
  else if h - n.first < 0 then pieceN (findP n.lefts (-1 - (h - n.first))) z else pieceN (findP n.rights (h - n.first - n.stretch.length)) z
theorem row_in {xs : List Rw} {i : Int} (h0 : 0 ≤ i) (h1 : i < xs.length) : nthR xs i ∈ xs ∧ atI (xs.map LP.T.dic) i = some (.dic (nthR xs i)) := by
  have hk : i.toNat < xs.length := by omega
  have e := List.getElem?_eq_getElem hk
  have en : nthR xs i = xs[i.toNat] := by unfold nthR; rw [e]; rfl
  refine ⟨by rw [en]; exact List.getElem_mem hk, ?_⟩
  have z := atI_nat (xs := xs.map LP.T.dic) (j := i.toNat) (v := T.dic (nthR xs i)) (by rw [List.getElem?_map, e, en]; rfl)
  rwa [show ((i.toNat : Nat) : Int) = i by omega] at z
def lNumberIn : LSp := fun ts q _ => ∃ (kt mt : Rw) (time : Int) (z : Str), ts = [.dic kt, .dic mt, .int time, .str z] ∧ RowOk (10 ^ 20) kt ∧ (time ≠ 0 → RowOk (10 ^ 9) mt ∧ ∀ j, j ∈ kt.map Prod.fst → j ∈ mt.map Prod.fst) ∧ q (.sh (numT kt mt time z)) .non
theorem row_val {b : Nat} {kt : Rw} {z : Str} (h : RowOk b kt) (m : (.inr z : Key) ∈ kt.map Prod.fst) : ∃ i : Int, valT kt (.inr z) = some (.int i) ∧ i.natAbs ≤ b := by
  obtain ⟨t, e, hm⟩ := valT_some m
  obtain ⟨i, ei, hi⟩ := h.v _ hm
  have ei : t = .int i := ei
  subst ei
  exact ⟨i, e, hi⟩
theorem dget_s {kt : Rw} {z : Str} {o : Option LP.T} (e : valT kt (.inr z) = o) : dgetT (.dic kt) (.str z) = some o := by
  show (match tkey (.str z) with | some k => some (valT kt k) | none => none) = some o
  rw [show tkey (.str z) = some (.inr z) from rfl]
  show some (valT kt (.inr z)) = some o
  rw [e]
theorem lk_number_in {P : Program} {w : World} {K : PySem.W.Frag} {mg : Str → Option Value} {base : Heap} (T : Tx K mg) : FnOk P w K mg base CX0 1 T.a_number_in T.fd_number_in ["row", "more", "time", "room"] (spL false (lNumberIn)) := by
  have hlen : ∀ ts q x, (lNumberIn : LSp) ts q x → ts.length = 4 := by
    intro ts q x h
    repeat' (first | (obtain ⟨rfl, _⟩ := h; rfl) | (obtain ⟨_, h⟩ := h))
  refine T.F_number_in.ok sc_number_in (fun vs H Q E h => spL_len hlen h) (fun cdv A outer s H vs Q E hr h => ?_)
  have hu := hu_of hr
  refine ⟨_, (pss_cons (ps_if (pt_cmp (pc_dnotin hu (pv 3) (pv 0)))
      (pss_one (ps_ret pe_non))
      pss_nil)
      (pss_cons (ps_if (pt_cmpR op_eq (pv 2) pe_int (nomark _))
      (pss_one (ps_ret (pe_callTy call_int1 (by rfl) T.z_int (by decide +kernel) (pa_cons (pe_dget hu (pv 0) (pv 3) (fun _ _ => rfl)) pa_nil))))
      pss_nil)
      (pss_one (ps_ret (pe_callTy call_int1 (by rfl) T.z_int (by decide +kernel) (pa_cons (pe_op op_add (pe_dget hu (pv 0) (pv 3) (fun _ _ => rfl)) (pe_op op_mul (pv 2) (pe_dget hu (pv 1) (pv 3) (fun _ _ => rfl)))) pa_nil)))))), ?_⟩
  refine spL_body (N := n_number_in) (n := 4) (fun _ => (sn_seq (sn_ifS (sn_tb (sn_dnotin sn_var sn_var))
      (sn_ret sn_non)
      sn_next)
      (sn_seq (sn_ifS (sn_test (sn_op ops_eq sn_var sn_int))
      (sn_ret (sn_cb cls_intOf (sn_cons (sn_dget sn_var sn_var) sn_nil)))
      sn_next)
      (sn_ret (sn_cb cls_intOf (sn_cons (sn_op ops_int (sn_dget sn_var sn_var) (sn_op ops_intC sn_var (sn_dget sn_var sn_var))) sn_nil)))))) h rfl (by rw [spL_len hlen h]; exact Nat.le_of_ble_eq_true rfl) (fun ts q h => ?_) (fun _ _ _ h => h)
  clear hlen
  obtain ⟨kt, mt, time, z, rfl, hk, hm, h⟩ := h
  by_cases c : (.inr z : Key) ∈ kt.map Prod.fst
  · obtain ⟨a, ea, ha⟩ := row_val hk c
    have g1 := dget_s ea
    walk_at "yo"
    by_cases c0 : time = 0
    · subst c0
      rw [decide_eq_true rfl]
      walk_at "ys"
      exact w_end rfl rfl (by unfold numT at h; rw [ea] at h; simpa using h)
    · rw [decide_eq_false c0]
      obtain ⟨hr, hs⟩ := hm c0
      obtain ⟨b, eb, hb⟩ := row_val hr (hs _ c)
      have g2 := dget_s eb
      have b64 : -(2 ^ 64) < b ∧ b < 2 ^ 64 := by omega
      have cm : L2.CMul time b := Or.inr b64
      walk_at "ys"
      exact w_end rfl rfl (by unfold numT at h; rw [ea, eb] at h; simpa [c0] using h)
  · have ea := valT_none c
    have g1 := dget_s ea
    walk_at "yo"
    exact w_end rfl rfl (by unfold numT at h; rw [ea] at h; exact h)
def lNumberAt : LSp := fun ts q _ => ∃ (n : Tolls) (hh : Int) (z : Str), ts = [n.T, .int hh, .str z] ∧ TlOk n ∧ q (.sh (numAt n hh z)) .non
theorem drop_get {α : Type} {xs : List α} {k : Nat} {x : α} (e : xs[k]? = some x) : xs.drop k = x :: xs.drop (k + 1) := by
  obtain ⟨hk, rfl⟩ := List.getElem?_eq_some_iff.mp e
  exact (List.getElem_cons_drop hk).symm
theorem nthR_get {xs : List Rw} {i : Int} (h0 : 0 ≤ i) (h1 : i < xs.length) : xs[i.toNat]? = some (nthR xs i) := by
  have hk : i.toNat < xs.length := by omega
  have e := List.getElem?_eq_getElem hk
  unfold nthR; rw [e]; rfl
theorem atPc {xs : List Rw} {g : Int} (h1 : 1 ≤ xs.length) (_h0 : 0 ≤ g) : nthR xs (g % xs.length) ∈ xs ∧ atI (xs.map LP.T.dic) (g % xs.length) = some (.dic (nthR xs (g % xs.length))) :=
  row_in (Int.emod_nonneg _ (by omega)) (Int.emod_lt_of_pos _ (by omega))
theorem findP_c (p : Pc) (ps : List Pc) (f : Int) : findP (p :: ps) f = match p.times with
    | none => some (p, f)
    | some t => if f < t * p.lane.length then some (p, f) else findP ps (f - t * p.lane.length) := rfl
theorem findP_e : ∀ (ps : List Pc) (f : Int) (p : Pc), ps.getLast? = some p → p.times = none → findP ps f ≠ none
  | [], _, _, e, _ => by simp at e
  | [p], f, p', e, et => by
    have e : p = p' := by simpa using e
    subst e
    simp only [findP, et]
    exact fun h => by cases h
  | p :: r :: ps, f, p', e, et => by
    unfold findP
    have z := fun f' => findP_e (r :: ps) f' p' (by simpa [List.getLast?_cons_cons] using e) et
    split
    · exact fun h => by cases h
    · split
      · exact fun h => by cases h
      · exact z _
theorem lk_number_at {P : Program} {w : World} {K : PySem.W.Frag} {mg : Str → Option Value} {base : Heap} (T : Tx K mg) : FnOk P w K mg base CX0 2 T.a_number_at T.fd_number_at ["numbers", "house", "room"] (spL false (lNumberAt)) := by
  have hlen : ∀ ts q x, (lNumberAt : LSp) ts q x → ts.length = 3 := by
    intro ts q x h
    repeat' (first | (obtain ⟨rfl, _⟩ := h; rfl) | (obtain ⟨_, h⟩ := h))
  refine T.F_number_at.ok sc_number_at (fun vs H Q E h => spL_len hlen h) (fun cdv A outer s H vs Q E hr h => ?_)
  refine ⟨_, (pss_cons (ps_asg (pv 0) (pg_tup rfl (pgs_cons (pg_name (i := 3) (sc_number_at).nd rfl (Or.inl rfl)) (pgs_cons (pg_name (i := 4) (sc_number_at).nd rfl (Or.inl rfl)) (pgs_cons (pg_name (i := 5) (sc_number_at).nd rfl (Or.inl rfl)) (pgs_cons (pg_name (i := 6) (sc_number_at).nd rfl (Or.inl rfl)) pgs_nil))))))
      (pss_cons (ps_set (i := 7) (sc_number_at).nd rfl (Or.inl rfl) (pe_op op_sub (pv 1) (pv 3)))
      (pss_cons (ps_if (pt_chain op_le op_lt pe_int (pv 7) (pe_callB call_len (by rfl) T.z_len (by decide +kernel) (pa_cons (pv 4) pa_nil)))
      (pss_one (ps_ret (pe_call (lk_number_in T) (hr.mono (by decide)) (by rfl) T.g_number_in T.k_number_in T.b_number_in .nil pass0 (pa_cons (pe_ix ix_list (pv 4) (pv 7) (fun _ _ => rfl)) (pa_cons pe_dnewK (pa_cons pe_int (pa_cons (pv 2) pa_nil)))))))
      pss_nil)
      (pss_cons (ps_asg (pe_ifExp (pt_cmpR op_lt (pv 7) pe_int (nomark _)) (pe_tup (pa_cons (pv 5) (pa_cons (pe_op op_sub (pe_un un_neg pe_int) (pv 7)) pa_nil))) (pe_tup (pa_cons (pv 6) (pa_cons (pe_op op_sub (pv 7) (pe_callB call_len (by rfl) T.z_len (by decide +kernel) (pa_cons (pv 4) pa_nil))) pa_nil)))) (pg_tup rfl (pgs_cons (pg_name (i := 8) (sc_number_at).nd rfl (Or.inl rfl)) (pgs_cons (pg_name (i := 9) (sc_number_at).nd rfl (Or.inl rfl)) pgs_nil))))
      (pss_cons (ps_for PassesOwn.never rfl (pi_list (pv 8)) (pg_tup rfl (pgs_cons (pg_name (i := 10) (sc_number_at).nd rfl (Or.inl rfl)) (pgs_cons (pg_name (i := 11) (sc_number_at).nd rfl (Or.inl rfl)) (pgs_cons (pg_name (i := 12) (sc_number_at).nd rfl (Or.inl rfl)) pgs_nil))))
      (Evl.pss_cut (ps_if (PW.pt (pw_or (pt_cmpR op_isN (pv 10) pe_non (nomark _)) (pw_or1 (pt_cmpR op_lt (pv 9) (pe_op op_mul (pv 10) (pe_callB call_len (by rfl) T.z_len (by decide +kernel) (pa_cons (pv 11) pa_nil))) (nomark _)))))
      (pss_one ps_break)
      pss_nil)
      (pss_one (ps_set (i := 9) (sc_number_at).nd rfl (Or.inl rfl) (pe_op op_sub (pv 9) (pe_op op_mul (pv 10) (pe_callB call_len (by rfl) T.z_len (by decide +kernel) (pa_cons (pv 11) pa_nil))))))))
      (pss_cons (ps_asg (pe_callB LH.cr_divmod (by rfl) T.z_divmod (by decide +kernel) (pa_cons (pv 9) (pa_cons (pe_callB call_len (by rfl) T.z_len (by decide +kernel) (pa_cons (pv 11) pa_nil)) pa_nil))) (pg_tup rfl (pgs_cons (pg_name (i := 13) (sc_number_at).nd rfl (Or.inl rfl)) (pgs_cons (pg_name (i := 14) (sc_number_at).nd rfl (Or.inl rfl)) pgs_nil))))
      (pss_one (ps_ret (pe_call (lk_number_in T) (hr.mono (by decide)) (by rfl) T.g_number_in T.k_number_in T.b_number_in .nil pass0 (pa_cons (pe_ix ix_list (pv 11) (pv 14) (fun _ _ => rfl)) (pa_cons (pe_ix ix_list (pv 12) (pv 14) (fun _ _ => rfl)) (pa_cons (pv 13) (pa_cons (pv 2) pa_nil))))))))))))), ?_⟩
  refine spL_body (N := n_number_at) (n := 15) (fun _ => (sn_seq (sn_asgG sn_var (sg_tup (sg_cons sg_name (sg_cons sg_name (sg_cons sg_name (sg_cons sg_name sg_nil))))))
      (sn_seq (sn_asg (sn_op ops_int sn_var sn_var))
      (sn_seq (sn_ifS (sn_test (sn_chain ops_cmp ops_cmp sn_int sn_var (sn_cb cls_len (sn_cons sn_var sn_nil))))
      (sn_ret (sn_call0 (sn_cons (sn_op ops_ixL sn_var sn_var) (sn_cons sn_dnewK (sn_cons sn_int (sn_cons sn_var sn_nil))))))
      sn_next)
      (sn_seq (sn_asgG (sn_if (sn_test (sn_op ops_cmp sn_var sn_int)) (sn_tup (sn_cons sn_var (sn_cons (sn_op ops_int (sn_un uns_un sn_int) sn_var) sn_nil))) (sn_tup (sn_cons sn_var (sn_cons (sn_op ops_int sn_var (sn_cb cls_len (sn_cons sn_var sn_nil))) sn_nil)))) (sg_tup (sg_cons sg_name (sg_cons sg_name sg_nil))))
      (sn_seq (sn_for (sni_list sn_var) (sg_tup (sg_cons sg_name (sg_cons sg_name (sg_cons sg_name sg_nil))))
      (fun _ => (sn_cut (sn_ifS (sn_or (sn_test (sn_op ops_isN sn_var sn_non)) (sn_test (sn_op ops_cmp sn_var (sn_op ops_intC sn_var (sn_cb cls_len (sn_cons sn_var sn_nil))))))
      sn_break
      sn_next)
      (sn_asg (sn_op ops_int sn_var (sn_op ops_intC sn_var (sn_cb cls_len (sn_cons sn_var sn_nil))))))))
      (sn_seq (sn_asgG (sn_cb cls_divmod (sn_cons sn_var (sn_cons (sn_cb cls_len (sn_cons sn_var sn_nil)) sn_nil))) (sg_tup (sg_cons sg_name (sg_cons sg_name sg_nil))))
      (sn_ret (sn_call0 (sn_cons (sn_op ops_ixL sn_var sn_var) (sn_cons (sn_op ops_ixL sn_var sn_var) (sn_cons sn_var (sn_cons sn_var sn_nil))))))))))))) h rfl (by rw [spL_len hlen h]; exact Nat.le_of_ble_eq_true rfl) (fun ts q h => ?_) (fun _ _ _ h => h)
  clear hlen
  obtain ⟨n, hh, z, rfl, ok, h⟩ := h
  have hs := ok.s
  unfold Tolls.T
  walk_at "yo"
  have hcase : (0 ≤ hh - n.first ∧ hh - n.first < (n.stretch.length : Int)) ∨ hh - n.first < 0 ∨ (0 ≤ hh - n.first ∧ (n.stretch.length : Int) ≤ hh - n.first) := by omega
  rcases hcase with c | c | c
  · rw [decide_eq_true c.1]
    walk_at "ys"
    rw [List.length_map, decide_eq_true c.2]
    have g1 := row_in c.1 c.2
    have g2 := g1.2
    walk_at "ys"
    refine ⟨_, [], 0, z, rfl, ok.r _ g1.1, fun h0 => absurd rfl h0, ?_⟩
    walk_at "ys"
    exact w_end rfl rfl (by unfold numAt at h; rw [if_pos c] at h; exact h)
  rw [decide_eq_false (by omega)]
  walk_at "ys"
  rw [decide_eq_true c]
  walk_at "ys"
  obtain ⟨ps, eps⟩ : ∃ ps, ps = n.lefts := ⟨_, rfl⟩
  obtain ⟨f0, ef0⟩ : ∃ f0, f0 = -1 - (hh - n.first) := ⟨_, rfl⟩
  have hps := ok.a
  have hf : 0 ≤ f0 := by omega
  unfold numAt at h
  rw [if_neg (by omega), if_pos c] at h
  rw [← eps] at hps h
  rw [← ef0] at h
  rw [← ef0, ← eps]
  rotate_left 1
  rw [decide_eq_true c.1]
  walk_at "ys"
  rw [List.length_map, decide_eq_false (by omega)]
  walk_at "ys"
  rw [decide_eq_false (by omega)]
  walk_at "ys"
  obtain ⟨ps, eps⟩ : ∃ ps, ps = n.rights := ⟨_, rfl⟩
  obtain ⟨f0, ef0⟩ : ∃ f0, f0 = hh - n.first - n.stretch.length := ⟨_, rfl⟩
  have hps := ok.b
  have hf : 0 ≤ f0 := by omega
  unfold numAt at h
  rw [if_neg (by omega), if_neg (by omega)] at h
  rw [← eps] at hps h
  rw [← ef0] at h
  rw [List.length_map, ← ef0, ← eps]
  rotate_left 1
  all_goals
    refine w_kforM (fun k ρ => ∃ (f : Int) (a b d : Option PV), 0 ≤ f ∧ findP (ps.drop k) f = findP ps f0 ∧ ρ = [some (.sh n.T), some (.sh (.int hh)), some (.sh (.str z)), some (.sh (.int n.first)), some (.sh (.lst (n.stretch.map LP.T.dic))), some (.sh (.lst (n.lefts.map Pc.T))), some (.sh (.lst (n.rights.map Pc.T))), some (.sh (.int (hh - n.first))), some (.sh (.lst (ps.map Pc.T))), some (.sh (.int f)), a, b, d, none, none]) ⟨f0, none, none, none, hf, rfl, by subst eps; rfl⟩ (fun k p ρ ek hi => ?_) (fun ρ hi => ?_)
    · obtain ⟨f, a, b, d, h0, hfd, rfl⟩ := hi
      have hp : p ∈ ps := List.mem_of_getElem? ek
      have po := hps.o p hp
      have hl := po.l
      have hm := po.m
      rw [drop_get ek, findP_c] at hfd
      have fin : findP ps f0 = some (p, f) → q (.sh (numT (nthR p.lane (f % p.lane.length)) (nthR p.more (f % p.lane.length)) (f / p.lane.length) z)) .non := fun e => by rw [e] at h; exact h
      have g1 := atPc hl.1 h0
      have g2 := g1.2
      have g3 := atPc (xs := p.more) (by omega) h0
      rw [hm] at g3
      have g4 := g3.2
      have hlen : (0 : Int) < ((p.lane.map LP.T.dic).length : Int) ∧ ((p.lane.map LP.T.dic).length : Int) < 1073741824 := by rw [List.length_map]; omega
      have hkk : ∀ j, j ∈ (nthR p.lane (f % p.lane.length)).map Prod.fst → j ∈ (nthR p.more (f % p.lane.length)).map Prod.fst := by
        refine po.k (f % p.lane.length).toNat _ _ ?_ ?_
        · exact nthR_get (Int.emod_nonneg _ (by omega)) (Int.emod_lt_of_pos _ (by omega))
        · exact nthR_get (Int.emod_nonneg _ (by omega)) (by rw [hm]; exact Int.emod_lt_of_pos _ (by omega))
      rw [show p.T = .tup [timesT p.times, .lst (p.lane.map LP.T.dic), .lst (p.more.map LP.T.dic)] from rfl]
      walk_at "ys"
      refine w_cutS ?_
      walk_at "ys"
      cases et : p.times with
      | none =>
        rw [et] at hfd
        rw [show isNonT (timesT none) = true from rfl]
        walk_at "ys"
        refine v_divmod hlen ?_
        walk_at "ys"
        rw [List.length_map]
        walk_at "ys"
        refine ⟨_, _, _, z, rfl, po.r _ g1.1, fun _ => ⟨po.s _ g3.1, hkk⟩, ?_⟩
        walk_at "ys"
        exact w_end rfl rfl (fin (by rw [← hfd]))
      | some t =>
        rw [et] at hfd
        simp only at hfd
        rw [show isNonT (timesT (some t)) = false from rfl, show timesT (some t) = .int t from rfl]
        have cm : L2.CMul t ((p.lane.map LP.T.dic).length : Int) := Or.inr (by rw [List.length_map]; omega)
        walk_at "ys"
        by_cases cb : f < t * (p.lane.length : Int)
        · rw [if_pos cb] at hfd
          rw [List.length_map, decide_eq_true cb]
          walk_at "ys"
          refine v_divmod hlen ?_
          walk_at "ys"
          rw [List.length_map]
          walk_at "ys"
          refine ⟨_, _, _, z, rfl, po.r _ g1.1, fun _ => ⟨po.s _ g3.1, hkk⟩, ?_⟩
          walk_at "ys"
          exact w_end rfl rfl (fin (by rw [← hfd]))
        · rw [if_neg cb] at hfd
          rw [List.length_map, decide_eq_false cb]
          rw [List.length_map] at cm
          walk_at "ys"
          rw [List.length_map]
          walk_at "ys"
          exact ⟨_, _, _, _, by omega, hfd, rfl⟩
    · obtain ⟨f, a, b, d, h0, hfd, rfl⟩ := hi
      rw [List.drop_eq_nil_of_le (Nat.le_refl _)] at hfd
      obtain ⟨p, e1, e2⟩ := hps.e
      exact absurd hfd.symm (findP_e ps f0 p e1 e2)
end LH
end
section
set_option maxRecDepth 100000
set_option maxHeartbeats 4000000
namespace LH
open PySem L2 LP
local macro_rules | `(tactic| walk_at "nf") => `(tactic| ((try simp only [List.set_cons_zero, List.set_cons_succ, List.set_nil, wipeE]); exact rfl))
local macro_rules | `(tactic| walk_at "dg") => `(tactic| first | assumption | exact rfl)
local macro_rules | `(tactic| walk_at "y1") => `(tactic| first
  | (with_reducible refine' w_seq ?_)
  | ((with_reducible refine' w_var ?e ?_); (case e => exact rfl))
  | (with_reducible refine' w_c ?_)
  | (with_reducible refine' w_op ?_)
  | ((with_reducible refine' w_kop ?e1 ?e2 ?_); (case e1 => exact rfl); (case e2 => exact rfl))
  | (with_reducible refine' w_un ?_)
  | ((with_reducible refine' w_kun ?e1 ?_); (case e1 => exact rfl))
  | (with_reducible refine' w_nil ?_)
  | (with_reducible refine' w_cons ?_)
  | (with_reducible refine' w_cb ?_)
  | ((with_reducible refine' w_kcb ?e ?_); (case e => exact rfl))
  | (with_reducible refine' w_lst ?_)
  | ((with_reducible refine' w_klst ?e ?l ?_); (case e => exact rfl); (case l => first | exact (Nat.le_of_ble_eq_true rfl) | (simp only [List.length_cons, List.length_nil]; omega)))
  | (with_reducible refine' w_tup ?_)
  | ((with_reducible refine' w_ktup ?e ?l ?_); (case e => exact rfl); (case l => first | exact (Nat.le_of_ble_eq_true rfl) | (simp only [List.length_cons, List.length_nil]; omega)))
  | (with_reducible refine' w_test ?_)
  | (with_reducible refine' w_kbl ?_)
  | (with_reducible refine' w_tru ?_)
  | (with_reducible refine' w_and ?_)
  | (with_reducible refine' w_or ?_)
  | (with_reducible refine' w_not ?_)
  | (with_reducible refine' w_yes ?_)
  | (with_reducible refine' w_andV ?_)
  | (with_reducible refine' w_orV ?_)
  | (with_reducible refine' w_notV ?_)
  | (with_reducible refine' w_if ?_)
  | (with_reducible refine' w_chain ?_)
  | ((with_reducible refine' w_kch1 ?e1 ?e2 ?_); (case e1 => exact rfl); (case e2 => exact rfl))
  | (with_reducible refine' w_dget ?_)
  | ((with_reducible refine' w_kdget ?e1 ?e2 ?e3 ?_); (case e1 => exact rfl); (case e2 => exact rfl); (case e3 => walk_at "dg"))
  | (with_reducible refine' w_din ?_)
  | ((with_reducible refine' w_kdin ?e1 ?e2 ?e3 ?_); (case e1 => exact rfl); (case e2 => exact rfl); (case e3 => walk_at "dg"))
  | ((with_reducible refine' w_kdnotin ?e1 ?e2 ?e3 ?_); (case e1 => exact rfl); (case e2 => exact rfl); (case e3 => walk_at "dg"))
  | (with_reducible refine' w_dnew ?_)
  | (with_reducible refine' w_dnewT ?_)
  | (with_reducible refine' w_fld ?_)
  | ((with_reducible refine' w_kfld ?e ?c ?n ?e2 ?_); (case e => exact rfl); (case c => assumption); (case n => assumption); (case e2 => walk_at "lk"))
  | (with_reducible refine' w_sl ?_)
  | (with_reducible refine' w_noPart ?_)
  | (with_reducible refine' w_part ?_)
  | ((with_reducible refine' w_kpart ?e ?_); (case e => exact rfl))
  | ((with_reducible refine' w_ksl ?e ?_); (case e => exact rfl))
  | (with_reducible refine' w_vslL ?_)
  | (with_reducible refine' w_rev ?_)
  | ((with_reducible refine' w_krev ?e ?_); (case e => exact rfl))
  | (with_reducible refine' w_revT ?_)
  | ((with_reducible refine' w_krevT ?e ?_); (case e => exact rfl))
  | ((with_reducible refine' v_catA ?l ?_); (case l => walk_at "ln"))
  | (with_reducible refine' v_slA ?_)
  | ((with_reducible refine' v_isi_int ?h ?_); (case h => walk_at "kn"))
  | ((with_reducible refine' v_isi_bool ?h ?_); (case h => walk_at "kn"))
  | ((with_reducible refine' v_isi_str ?h ?_); (case h => walk_at "kn"))
  | ((with_reducible refine' v_isi_tup ?h ?_); (case h => walk_at "kn"))
  | ((with_reducible refine' v_isi_lst ?h ?_); (case h => walk_at "kn"))
  | (with_reducible refine' w_inRg ?_)
  | ((with_reducible refine' w_kinRgN ?e1 ?e2 ?_); (case e1 => exact rfl); (case e2 => exact rfl))
  | ((with_reducible refine' w_kinRg ?e1 ?e2 ?_); (case e1 => exact rfl); (case e2 => exact rfl))
  | (with_reducible refine' w_call0X ?_)
  | ((with_reducible refine' w_kcall0X ?e ?_); (case e => exact rfl))
  | (with_reducible refine' w_call1X ?_)
  | ((with_reducible refine' w_kcall1X ?e ?e2 ?_); (case e => exact rfl); (case e2 => exact rfl))
  | (with_reducible refine' w_meth1X ?_)
  | ((with_reducible refine' w_kmeth1X ?e ?o ?_); (case e => exact rfl); (case o => walk_at "op"))
  | (with_reducible refine' w_methTX ?_)
  | ((with_reducible refine' w_kmethTX ?o ?_); (case o => walk_at "op"))
  | ((with_reducible refine' w_kcallTX ?e ?_); (case e => exact rfl))
  | (with_reducible refine' w_raise ?_)
  | ((with_reducible refine' w_kraise ?e ?e2 ?l1 ?l2 ?e3 ?_); (case e => exact rfl); (case e2 => exact rfl); (case l1 => exact rfl); (case l2 => exact (Nat.le_of_ble_eq_true rfl)); (case e3 => exact rfl))
  | (with_reducible refine' w_try ?_)
  | (with_reducible refine' w_snx ?_)
  | (with_reducible refine' w_srt ?_)
  | ((with_reducible refine' w_behind ?k ?e ?_); (case k => walk_at "cx"); (case e => walk_at "nc"))
  | ((with_reducible refine' w_behindR ?k ?n ?e ?_); (case k => walk_at "cx"); (case n => exact (fun _ _ _ _ z => PV.noConfusion z)); (case e => walk_at "nc"))
  | (with_reducible refine' w_xf ?_)
  | ((with_reducible refine' w_kxf ?e ?_); (case e => walk_at "lk"))
  | (with_reducible refine' w_xk ?_)
  | ((with_reducible refine' w_kxk ?e ?x ?n ?e2 ?_); (case e => exact rfl); (case x => assumption); (case n => assumption); (case e2 => walk_at "lk"))
  | (with_reducible refine' w_bm ?_)
  | ((with_reducible refine' w_kbm1 ?e ?t ?_); (case e => exact rfl); (case t => exact rfl))
  | ((with_reducible refine' w_kbm2 ?e ?e2 ?_); (case e => exact rfl); (case e2 => exact rfl))
  | (with_reducible refine' w_m1 ?_)
  | (with_reducible refine' w_kstr ?_)
  | ((with_reducible refine' w_km1 ?e ?_); (case e => exact rfl))
  | (with_reducible refine' w_next ?_)
  | (with_reducible refine' w_break ?_)
  | (with_reducible refine' w_cont ?_)
  | (with_reducible refine' w_ifS ?_)
  | (with_reducible refine' w_ret ?_)
  | (with_reducible refine' w_retN ?_)
  | (with_reducible refine' w_drop ?_)
  | (with_reducible refine' w_asg ?_)
  | ((with_reducible refine' w_kasg ?e ?e2 ?_); (case e => exact rfl); (case e2 => walk_at "nf"))
  | (with_reducible refine' w_asgG ?_)
  | ((with_reducible refine' w_kasgG ?e ?_); (case e => exact rfl))
  | ((with_reducible refine' w_gName ?e ?_); (case e => walk_at "nf"))
  | (with_reducible refine' w_gNil ?_)
  | (with_reducible refine' w_gCons ?_)
  | ((with_reducible refine' w_gTup ?l ?_); (case l => exact rfl))
  | (with_reducible refine' w_par ?_)
  | ((with_reducible refine' w_kpar ?e1 ?e2 ?n ?e3 ?_); (case e1 => exact rfl); (case e2 => exact rfl); (case n => exact (fun _ z => PV.noConfusion z)); (case e3 => walk_at "nf"))
  | (with_reducible refine' w_get1 ?_)
  | ((with_reducible refine' w_kget1 ?e ?_); (case e => exact rfl))
  | ((with_reducible refine' w_kget2 ?e1 ?e2 ?e3 ?_); (case e1 => exact rfl); (case e2 => exact rfl); (case e3 => exact rfl))
  | (with_reducible refine' w_parS ?_)
  | ((with_reducible refine' w_kparS ?e1 ?e2 ?n ?e3 ?_); (case e1 => exact rfl); (case e2 => exact rfl); (case n => exact (fun _ z => PV.noConfusion z)); (case e3 => walk_at "nf"))
  | (with_reducible refine' w_par3 ?_)
  | ((with_reducible refine' w_kpar3 ?n1 ?n2 ?e1 ?e2 ?e3 ?e4 ?_); (case n1 => exact (fun _ z => PV.noConfusion z)); (case n2 => exact (fun _ z => PV.noConfusion z)); (case e1 => exact rfl); (case e2 => exact rfl); (case e3 => exact rfl); (case e4 => walk_at "nf"))
  | (with_reducible refine' w_mut ?_)
  | ((with_reducible refine' w_kmut1 ?e ?_); (case e => exact rfl))
  | ((with_reducible refine' w_kmut2 ?e ?e2 ?_); (case e => exact rfl); (case e2 => exact rfl))
  | (with_reducible refine' w_mut0 ?_)
  | ((with_reducible refine' w_kmut0 ?e ?_); (case e => exact rfl))
  | ((with_reducible refine' w_append ?l ?_); (case l => walk_at "ln"))
  | (with_reducible refine' w_clear ?_)
  | (with_reducible refine' w_reverse ?_)
  | (with_reducible refine' w_dput ?_)
  | ((with_reducible refine' w_kdput ?e1 ?e2 ?e3 ?e4 ?l ?e5 ?_); (case e1 => exact rfl); (case e2 => exact rfl); (case e3 => exact rfl); (case e4 => walk_at "dg"); (case l => walk_at "ln"); (case e5 => walk_at "nf"))
  | (with_reducible refine' w_setL ?_)
  | ((with_reducible refine' w_ksetL1 ?e ?_); (case e => exact rfl))
  | ((with_reducible refine' w_aug ?e ?_); (case e => exact rfl))
  | ((with_reducible refine' w_kaug ?e1 ?e2 ?_); (case e1 => exact rfl); (case e2 => exact rfl))
  | (with_reducible refine' w_ksh ?_)
  | ((with_reducible refine' w_kset ?e ?_); (case e => walk_at "nf"))
  | (with_reducible refine' w_call0 ?_)
  | ((with_reducible refine' w_kcall0 ?e ?_); (case e => exact rfl))
  | (with_reducible refine' w_call1 ?_)
  | (with_reducible refine' w_khd ?_)
  | ((with_reducible refine' w_kcall1 ?e ?e2 ?_); (case e => exact rfl); (case e2 => exact rfl))
  | (with_reducible refine' w_meth0 ?_)
  | ((with_reducible refine' w_kmeth0 ?e ?e2 ?_); (case e => exact rfl); (case e2 => walk_at "lk"))
  | (with_reducible refine' w_meth1 ?_)
  | ((with_reducible refine' w_kmeth1 ?e ?o ?_); (case e => exact rfl); (case o => walk_at "op"))
  | (with_reducible refine' w_methT ?_)
  | ((with_reducible refine' w_kmethT ?o ?_); (case o => walk_at "op"))
  | ((with_reducible refine' w_kcallT ?e ?_); (case e => exact rfl))
  | (with_reducible refine' w_make ?_)
  | ((with_reducible refine' w_kmake ?e ?_); (case e => exact rfl))
  | ((with_reducible refine' w_end ?e1 ?e2 ?_); (case e1 => exact rfl); (case e2 => exact rfl))
  | (with_reducible refine' w_for ?_)
  | (with_reducible refine' w_list ?_)
  | ((with_reducible refine' w_kli ?e ?_); (case e => exact rfl))
  | (with_reducible refine' w_tupI ?_)
  | ((with_reducible refine' w_kti ?e ?_); (case e => exact rfl))
  | (with_reducible refine' w_sq ?_)
  | ((with_reducible refine' w_ksq ?e ?e2 ?_); (case e => exact rfl); (case e2 => exact rfl))
  | (with_reducible refine' w_rng1 ?_)
  | ((with_reducible refine' w_kr1 ?e ?b ?_); (case e => exact rfl); (case b => walk_at "ar"))
  | (with_reducible refine' w_rng2 ?_)
  | ((with_reducible refine' w_kr2 ?e ?b ?_); (case e => exact rfl); (case b => walk_at "ar"))
  | (with_reducible refine' w_strI ?_)
  | ((with_reducible refine' w_ksti ?e ?_); (case e => exact rfl))
  | (with_reducible refine' w_enumI ?_)
  | ((with_reducible refine' w_keni ?e ?_); (case e => exact rfl))
  | ((with_reducible refine' w_lc ?e ?_); (case e => ((simp only [List.map_cons, List.map_nil]); exact rfl)))
  | ((with_reducible refine' w_dc ?e ?_); (case e => ((simp only [List.map_cons, List.map_nil]); exact rfl)))
  | ((with_reducible refine' w_kditem ?e ?e1 ?e2 ?hk ?e3 ?_); (case e => exact rfl); (case e1 => exact rfl); (case e2 => exact rfl); (case hk => exact rfl); (case e3 => walk_at "nf"))
  | (with_reducible refine' w_listVals ?_)
  | ((with_reducible refine' w_kvals ?e ?_); (case e => exact rfl))
  | ((with_reducible refine' w_kitem ?e ?hk ?e2 ?_); (case e => exact rfl); (case hk => exact rfl); (case e2 => walk_at "nf"))
  | ((with_reducible refine' w_kskip ?hk ?e2 ?_); (case hk => exact rfl); (case e2 => walk_at "nf"))
  | (with_reducible refine' v_int ?_)
  | ((with_reducible refine' v_intC ?c ?_); (case c => walk_at "ar"))
  | (with_reducible refine' v_cmp ?_)
  | (with_reducible refine' v_un ?_)
  | (with_reducible refine' v_eqI ?_)
  | (with_reducible refine' v_neI ?_)
  | (with_reducible refine' v_eqS ?_)
  | (with_reducible refine' v_neS ?_)
  | (with_reducible refine' v_eqNil ?_)
  | (with_reducible refine' v_neNil ?_)
  | (with_reducible refine' v_inS ?_)
  | (with_reducible refine' v_notInS ?_)
  | ((with_reducible refine' v_ixL ?e ?_); (case e => walk_at "ix"))
  | ((with_reducible refine' v_ixT ?e ?_); (case e => walk_at "ix"))
  | ((with_reducible refine' v_len ?e ?l ?_); (case e => exact rfl); (case l => walk_at "ln"))
  | (with_reducible refine' v_abs ?_)
  | ((with_reducible refine' v_min2 ?_); (intro hm hm1 hm2 hm3))
  | ((with_reducible refine' v_max2 ?_); (intro hm hm1 hm2 hm3))
  | (with_reducible refine' v_int2 ?_)
  | (with_reducible refine' w_lstRg ?_)
  | (with_reducible refine' w_rg1 ?_)
  | ((with_reducible refine' w_krg1 ?e ?_); (case e => exact rfl))
  | (with_reducible refine' w_rg2 ?_)
  | ((with_reducible refine' w_krg2 ?e ?e2 ?_); (case e => exact rfl); (case e2 => exact rfl))
  | ((with_reducible refine' w_krg ?l ?_); (case l => walk_at "ar"))
  | (with_reducible refine' v_intOfI ?_)
  | (with_reducible refine' v_intOfB ?_)
  | (with_reducible refine' v_strOf ?_)
  | ((with_reducible refine' v_lst ?e ?_); (case e => exact rfl))
  | (with_reducible refine' v_tup ?_)
  | ((with_reducible refine' v_cat ?l ?_); (case l => walk_at "ln"))
  | (with_reducible refine' v_isN ?_)
  | (with_reducible refine' v_notN ?_)
  | (with_reducible refine' w_itN ?_)
  | (with_reducible refine' w_itE ?_)
  | (with_reducible refine' w_itT ?_)
  | (with_reducible refine' w_itNT ?_)
  | (with_reducible refine' w_itNF ?_)
  | (with_reducible refine' w_itF ?_)
  | (with_reducible refine' w_itNn ?_)
  | (with_reducible refine' w_itNs ?_)
  | (with_reducible refine' w_itn ?_)
  | (with_reducible refine' w_its ?_)
  )
local macro_rules | `(tactic| walk_at "ln") => `(tactic| first | assumption | exact (Nat.le_of_ble_eq_true rfl) | omega | (simp only [List.length_map, rngT_len, List.length_append, List.length_cons, List.length_nil]; omega))
local macro_rules | `(tactic| walk_at "ix") => `(tactic| first | assumption | exact rfl | exact LP.atI_c0 _ _ | exact LP.atI_c1 _ _ _ | exact LP.atI_last _ _)
local macro_rules | `(tactic| walk_at "lk") => `(tactic| first | assumption | exact rfl)
local macro_rules | `(tactic| walk_at "op") => `(tactic| assumption)
local macro_rules | `(tactic| walk_at "nc") => `(tactic| ((try simp only [convE, convP, List.map_cons, List.map_nil, Option.map_some, Option.map_none, List.set_cons_zero, List.set_cons_succ]); exact rfl))
local macro_rules | `(tactic| walk_at "cx") => `(tactic| first | exact ⟨rfl, rfl, rfl, trivial⟩ | exact trivial | (simp [cxOk]; done))
local macro_rules | `(tactic| walk_at "kn") => `(tactic| first | assumption | (intro z; cases z))
local macro_rules | `(tactic| walk_at "ar") => `(tactic| first
  | assumption
  | decide
  | omega
  | exact ⟨by omega, by omega⟩
  | exact Or.inl ⟨by omega, by omega⟩
  | exact Or.inr ⟨by omega, by omega⟩
  | exact ⟨by decide, by decide, by decide⟩
  | (simp only [List.length_map]; omega))
local macro_rules | `(tactic| walk_at "ys") => `(tactic| repeat (walk_at "y1"))
local macro_rules | `(tactic| walk_at "yo") => `(tactic| ((refine' w_start ?e ?_); (case e => ((try simp only [startE, startT, List.map_cons, List.map_nil, List.length_cons, List.length_nil, Nat.zero_add, Nat.reduceAdd, Nat.reduceSub, List.cons_append, List.nil_append, List.reduceReplicate]); exact rfl)); walk_at "ys"))

theorem numT_0 {kt : Rw} {z : Str} (h : RowOk (10 ^ 20) kt) : (valT kt (.inr z)).getD .non = numT kt [] 0 z := by
  unfold numT
  by_cases c : (.inr z : Key) ∈ kt.map Prod.fst
  · obtain ⟨a, ea, _⟩ := row_val h c
    rw [ea]; rfl
  · rw [valT_none c]; rfl
theorem num_in {kt mt : Rw} {time a b : Int} {z : Str} (e1 : valT kt (.inr z) = some (.int a)) (e2 : valT mt (.inr z) = some (.int b)) : numT kt mt time z = .int (a + time * b) := by
  unfold numT
  rw [e1, e2]
  by_cases c : time = 0
  · subst c; simp
  · simp [c]
theorem num_out {kt mt : Rw} {time : Int} {z : Str} (e1 : valT kt (.inr z) = none) : numT kt mt time z = .non := by
  unfold numT
  rw [e1]
theorem lk_law_number {P : Program} {w : World} {K : PySem.W.Frag} {mg : Str → Option Value} {base : Heap} (T : Tx K mg) : FnOk P w K mg base CX0 1 T.a_law_number T.fd_law_number ["tolls", "house", "room"] (spL false (lNumberAt)) := by
  have hlen : ∀ ts q x, (lNumberAt : LSp) ts q x → ts.length = 3 := by
    intro ts q x h
    repeat' (first | (obtain ⟨rfl, _⟩ := h; rfl) | (obtain ⟨_, h⟩ := h))
  refine T.F_law_number.ok sc_law_number (fun vs H Q E h => spL_len hlen h) (fun cdv A outer s H vs Q E hr h => ?_)
  have hu := hu_of hr
  refine ⟨_, (pss_cons (ps_asg (pv 0) (pg_tup rfl (pgs_cons (pg_name (i := 3) (sc_law_number).nd rfl (Or.inl rfl)) (pgs_cons (pg_name (i := 4) (sc_law_number).nd rfl (Or.inl rfl)) (pgs_cons (pg_name (i := 5) (sc_law_number).nd rfl (Or.inl rfl)) (pgs_cons (pg_name (i := 6) (sc_law_number).nd rfl (Or.inl rfl)) pgs_nil))))))
      (pss_cons (ps_set (i := 7) (sc_law_number).nd rfl (Or.inl rfl) (pe_op op_sub (pv 1) (pv 3)))
      (pss_cons (ps_if (pt_chain op_le op_lt pe_int (pv 7) (pe_callB call_len (by rfl) T.z_len (by decide +kernel) (pa_cons (pv 4) pa_nil)))
      (pss_one (ps_ret (pe_dget1 hu (pe_ix ix_list (pv 4) (pv 7) (fun _ _ => rfl)) (pv 2) LH.m1_get)))
      pss_nil)
      (pss_cons (ps_par (i := 8) (j := 9) (by rfl) (sc_law_number).nd rfl rfl (by decide) rfl rfl (pa_cons (pe_op op_sub (pv 7) (pe_callB call_len (by rfl) T.z_len (by decide +kernel) (pa_cons (pv 4) pa_nil))) (pa_cons (pv 6) pa_nil)) (by rfl))
      (Evl.pss_cut (ps_if (pt_cmpR op_lt (pv 7) pe_int (nomark _))
      (pss_one (ps_par (i := 8) (j := 9) (by rfl) (sc_law_number).nd rfl rfl (by decide) rfl rfl (pa_cons (pe_op op_sub (pe_op op_sub pe_int (pv 7)) pe_int) (pa_cons (pv 5) pa_nil)) (by rfl)))
      pss_nil)
      (pss_cons (ps_for PassesOwn.never rfl (pi_list (pv 9)) (pg_tup rfl (pgs_cons (pg_name (i := 10) (sc_law_number).nd rfl (Or.inl rfl)) (pgs_cons (pg_name (i := 11) (sc_law_number).nd rfl (Or.inl rfl)) (pgs_cons (pg_name (i := 12) (sc_law_number).nd rfl (Or.inl rfl)) pgs_nil))))
      (Evl.pss_cut (ps_if (PW.pt (pw_or (pt_cmpR op_isN (pv 10) pe_non (nomark _)) (pw_or1 (pt_cmpR op_lt (pv 8) (pe_op op_mul (pv 10) (pe_callB call_len (by rfl) T.z_len (by decide +kernel) (pa_cons (pv 11) pa_nil))) (nomark _)))))
      (pss_cons (ps_par (i := 13) (j := 14) (by rfl) (sc_law_number).nd rfl rfl (by decide) rfl rfl (pa_cons (pe_op op_fdiv (pv 8) (pe_callB call_len (by rfl) T.z_len (by decide +kernel) (pa_cons (pv 11) pa_nil))) (pa_cons (pe_op op_mod (pv 8) (pe_callB call_len (by rfl) T.z_len (by decide +kernel) (pa_cons (pv 11) pa_nil))) pa_nil)) (by rfl))
      (pss_one (ps_ret (pe_ifExp (pt_cmp (pc_din hu (pv 2) (pe_ix ix_list (pv 11) (pv 14) (fun _ _ => rfl)))) (pe_op op_add (pe_dget hu (pe_ix ix_list (pv 11) (pv 14) (fun _ _ => rfl)) (pv 2) (fun _ _ => rfl)) (pe_op op_mul (pv 13) (pe_dget hu (pe_ix ix_list (pv 12) (pv 14) (fun _ _ => rfl)) (pv 2) (fun _ _ => rfl)))) pe_non))))
      pss_nil)
      (pss_one (ps_set (i := 8) (sc_law_number).nd rfl (Or.inl rfl) (pe_op op_sub (pv 8) (pe_op op_mul (pv 10) (pe_callB call_len (by rfl) T.z_len (by decide +kernel) (pa_cons (pv 11) pa_nil))))))))
      (pss_one (ps_ret pe_non)))))))), ?_⟩
  refine spL_body (N := n_law_number) (n := 15) (fun _ => (sn_seq (sn_asgG sn_var (sg_tup (sg_cons sg_name (sg_cons sg_name (sg_cons sg_name (sg_cons sg_name sg_nil))))))
      (sn_seq (sn_asg (sn_op ops_int sn_var sn_var))
      (sn_seq (sn_ifS (sn_test (sn_chain ops_cmp ops_cmp sn_int sn_var (sn_cb cls_len (sn_cons sn_var sn_nil))))
      (sn_ret (sn_get1 (sn_op ops_ixL sn_var sn_var) sn_var))
      sn_next)
      (sn_seq (sn_par (by decide) (sn_cons (sn_op ops_int sn_var (sn_cb cls_len (sn_cons sn_var sn_nil))) (sn_cons sn_var sn_nil)))
      (sn_cut (sn_ifS (sn_test (sn_op ops_cmp sn_var sn_int))
      (sn_par (by decide) (sn_cons (sn_op ops_int (sn_op ops_int sn_int sn_var) sn_int) (sn_cons sn_var sn_nil)))
      sn_next)
      (sn_seq (sn_for (sni_list sn_var) (sg_tup (sg_cons sg_name (sg_cons sg_name (sg_cons sg_name sg_nil))))
      (fun _ => (sn_cut (sn_ifS (sn_or (sn_test (sn_op ops_isN sn_var sn_non)) (sn_test (sn_op ops_cmp sn_var (sn_op ops_intC sn_var (sn_cb cls_len (sn_cons sn_var sn_nil))))))
      (sn_seq (sn_par (by decide) (sn_cons (sn_op ops_intC sn_var (sn_cb cls_len (sn_cons sn_var sn_nil))) (sn_cons (sn_op ops_intC sn_var (sn_cb cls_len (sn_cons sn_var sn_nil))) sn_nil)))
      (sn_ret (sn_if (sn_tb (sn_din sn_var (sn_op ops_ixL sn_var sn_var))) (sn_op ops_int (sn_dget (sn_op ops_ixL sn_var sn_var) sn_var) (sn_op ops_intC sn_var (sn_dget (sn_op ops_ixL sn_var sn_var) sn_var))) sn_non)))
      sn_next)
      (sn_asg (sn_op ops_int sn_var (sn_op ops_intC sn_var (sn_cb cls_len (sn_cons sn_var sn_nil))))))))
      (sn_ret sn_non)))))))) h rfl (by rw [spL_len hlen h]; exact Nat.le_of_ble_eq_true rfl) (fun ts q h => ?_) (fun _ _ _ h => h)
  clear hlen
  obtain ⟨n, hh, z, rfl, ok, h⟩ := h
  have hs := ok.s
  unfold Tolls.T
  walk_at "yo"
  have hcase : (0 ≤ hh - n.first ∧ hh - n.first < (n.stretch.length : Int)) ∨ hh - n.first < 0 ∨ (0 ≤ hh - n.first ∧ (n.stretch.length : Int) ≤ hh - n.first) := by omega
  rcases hcase with c | c | c
  · rw [decide_eq_true c.1]
    walk_at "ys"
    rw [List.length_map, decide_eq_true c.2]
    have g1 := row_in c.1 c.2
    have g2 := g1.2
    walk_at "ys"
    exact w_end rfl rfl (by unfold numAt at h; rw [if_pos c] at h; rw [numT_0 (ok.r _ g1.1)]; exact h)
  rw [decide_eq_false (by omega)]
  walk_at "ys"
  refine w_cutS ?_
  walk_at "ys"
  rw [decide_eq_true c]
  walk_at "ys"
  obtain ⟨ps, eps⟩ : ∃ ps, ps = n.lefts := ⟨_, rfl⟩
  obtain ⟨f0, ef0⟩ : ∃ f0, f0 = 0 - (hh - n.first) - 1 := ⟨_, rfl⟩
  have hps := ok.a
  have hf : 0 ≤ f0 := by omega
  unfold numAt at h
  rw [if_neg (by omega), if_pos c, show -1 - (hh - n.first) = f0 by omega] at h
  rw [← eps] at hps h
  rw [← ef0, ← eps]
  rotate_left 1
  rw [decide_eq_true c.1]
  walk_at "ys"
  rw [List.length_map, decide_eq_false (by omega)]
  walk_at "ys"
  refine w_cutS ?_
  walk_at "ys"
  rw [decide_eq_false (by omega)]
  walk_at "ys"
  obtain ⟨ps, eps⟩ : ∃ ps, ps = n.rights := ⟨_, rfl⟩
  obtain ⟨f0, ef0⟩ : ∃ f0, f0 = hh - n.first - n.stretch.length := ⟨_, rfl⟩
  have hps := ok.b
  have hf : 0 ≤ f0 := by omega
  unfold numAt at h
  rw [if_neg (by omega), if_neg (by omega)] at h
  rw [← eps] at hps h
  rw [← ef0] at h
  rw [List.length_map, ← ef0, ← eps]
  rotate_left 1
  all_goals
    refine w_kforM (fun k ρ => ∃ (f : Int) (a b d : Option PV), 0 ≤ f ∧ findP (ps.drop k) f = findP ps f0 ∧ ρ = [some (.sh n.T), some (.sh (.int hh)), some (.sh (.str z)), some (.sh (.int n.first)), some (.sh (.lst (n.stretch.map LP.T.dic))), some (.sh (.lst (n.lefts.map Pc.T))), some (.sh (.lst (n.rights.map Pc.T))), some (.sh (.int (hh - n.first))), some (.sh (.int f)), some (.sh (.lst (ps.map Pc.T))), a, b, d, none, none]) ⟨f0, none, none, none, hf, rfl, by subst eps; rfl⟩ (fun k p ρ ek hi => ?_) (fun ρ hi => ?_)
    · obtain ⟨f, a, b, d, h0, hfd, rfl⟩ := hi
      have hp : p ∈ ps := List.mem_of_getElem? ek
      have po := hps.o p hp
      have hl := po.l
      have hm := po.m
      rw [drop_get ek, findP_c] at hfd
      have fin : findP ps f0 = some (p, f) → q (.sh (numT (nthR p.lane (f % p.lane.length)) (nthR p.more (f % p.lane.length)) (f / p.lane.length) z)) .non := fun e => by rw [e] at h; exact h
      have g1 := atPc hl.1 h0
      have g2 := g1.2
      have g3 := atPc (xs := p.more) (by omega) h0
      rw [hm] at g3
      have g4 := g3.2
      have hlen : (0 : Int) < ((p.lane.map LP.T.dic).length : Int) ∧ ((p.lane.map LP.T.dic).length : Int) < 1073741824 := by rw [List.length_map]; omega
      have hlen1 := hlen.1
      have hkk : ∀ j, j ∈ (nthR p.lane (f % p.lane.length)).map Prod.fst → j ∈ (nthR p.more (f % p.lane.length)).map Prod.fst := by
        refine po.k (f % p.lane.length).toNat _ _ ?_ ?_
        · exact nthR_get (Int.emod_nonneg _ (by omega)) (Int.emod_lt_of_pos _ (by omega))
        · exact nthR_get (Int.emod_nonneg _ (by omega)) (by rw [hm]; exact Int.emod_lt_of_pos _ (by omega))
      rw [show p.T = .tup [timesT p.times, .lst (p.lane.map LP.T.dic), .lst (p.more.map LP.T.dic)] from rfl]
      walk_at "ys"
      refine w_cutS ?_
      walk_at "ys"
      cases et : p.times with
      | none =>
        rw [et] at hfd
        rw [show isNonT (timesT none) = true from rfl]
        walk_at "ys"
        have cd : CDiv f ((p.lane.map LP.T.dic).length : Int) := hlen
        walk_at "ys"
        simp only [List.length_map]
        by_cases c2 : (.inr z : Key) ∈ (nthR p.lane (f % p.lane.length)).map Prod.fst
        · obtain ⟨u, eu, hu⟩ := row_val (po.r _ g1.1) c2
          have q1 := dget_s eu
          obtain ⟨v, ev, hv⟩ := row_val (po.s _ g3.1) (hkk _ c2)
          have q2 := dget_s ev
          have cm2 : L2.CMul (f / p.lane.length) v := Or.inr (by omega)
          have fin := fin (by rw [← hfd])
          rw [num_in eu ev] at fin
          walk_at "ys"
          exact w_end rfl rfl fin
        · have q1 := dget_s (valT_none c2)
          have fin := fin (by rw [← hfd])
          rw [num_out (valT_none c2)] at fin
          walk_at "ys"
          exact w_end rfl rfl fin
      | some t =>
        rw [et] at hfd
        simp only at hfd
        rw [show isNonT (timesT (some t)) = false from rfl, show timesT (some t) = .int t from rfl]
        have cm : L2.CMul t ((p.lane.map LP.T.dic).length : Int) := Or.inr (by rw [List.length_map]; omega)
        walk_at "ys"
        by_cases cb : f < t * (p.lane.length : Int)
        · rw [if_pos cb] at hfd
          rw [List.length_map, decide_eq_true cb]
          walk_at "ys"
          have cd : CDiv f ((p.lane.map LP.T.dic).length : Int) := hlen
          walk_at "ys"
          simp only [List.length_map]
          by_cases c2 : (.inr z : Key) ∈ (nthR p.lane (f % p.lane.length)).map Prod.fst
          · obtain ⟨u, eu, hu⟩ := row_val (po.r _ g1.1) c2
            have q1 := dget_s eu
            obtain ⟨v, ev, hv⟩ := row_val (po.s _ g3.1) (hkk _ c2)
            have q2 := dget_s ev
            have cm2 : L2.CMul (f / p.lane.length) v := Or.inr (by omega)
            have fin := fin (by rw [← hfd])
            rw [num_in eu ev] at fin
            walk_at "ys"
            exact w_end rfl rfl fin
          · have q1 := dget_s (valT_none c2)
            have fin := fin (by rw [← hfd])
            rw [num_out (valT_none c2)] at fin
            walk_at "ys"
            exact w_end rfl rfl fin
        · rw [if_neg cb] at hfd
          rw [List.length_map, decide_eq_false cb]
          rw [List.length_map] at cm
          walk_at "ys"
          rw [List.length_map]
          walk_at "ys"
          exact ⟨_, _, _, _, by omega, hfd, rfl⟩
    · obtain ⟨f, a, b, d, h0, hfd, rfl⟩ := hi
      rw [List.drop_eq_nil_of_le (Nat.le_refl _)] at hfd
      obtain ⟨p, e1, e2⟩ := hps.e
      exact absurd hfd.symm (findP_e ps f0 p e1 e2)
theorem row_merge {b : Nat} {kv : Rw} (hl : kv.length ≤ 6) (h : ∀ q ∈ kv, (∃ z, q.1 = .inr z ∧ Nm z) ∧ ∃ i : Int, q.2 = .int i ∧ i.natAbs ≤ b) : RowOk b (mergeT [] kv) := by
  have m : ∀ q ∈ mergeT [] kv, q ∈ kv := fun q hq => (mem_mergeT hq).elim (fun z => by cases z) id
  exact ⟨Nat.le_trans mergeT_len (by simpa using hl), fun q hq => (h q (m q hq)).1, fun q hq => (h q (m q hq)).2⟩
def lRow : LSp := fun ts q _ => ∃ (tp : LP.T) (zs : List Str) (n : Nat), ts = [tp, .lst (zs.map LP.T.str)] ∧ PenOk n tp ∧ n + 30 < 2 ^ 62 ∧ zs.length ≤ 6 ∧ (∀ z ∈ zs, Nm z) ∧ ∀ (kt : Rw) (tp' : LP.T), RowOk (10 ^ 20) kt → PenOk (n + 30) tp' → q (.ow (.dic kt)) tp'
theorem lk_law_row {P : Program} {w : World} {K : PySem.W.Frag} {mg : Str → Option Value} {base : Heap} (T : Tx K mg) : FnOk P w K mg base CX0 3 T.a_law_row T.fd_law_row ["pen", "names"] (spL true (lRow)) := by
  have hlen : ∀ ts q x, (lRow : LSp) ts q x → ts.length = 2 := by
    intro ts q x h
    repeat' (first | (obtain ⟨rfl, _⟩ := h; rfl) | (obtain ⟨_, h⟩ := h))
  refine T.F_law_row.ok sc_law_row (fun vs H Q E h => spL_len hlen h) (fun cdv A outer s H vs Q E hr h => ?_)
  have hu := hu_of hr
  refine ⟨_, (pss_cons (ps_set (i := 2) (sc_law_row).nd rfl (Or.inl rfl) (pe_slice sl_list (pe_call (lk_law_shuffled T) (hr.mono (by decide)) (by rfl) T.g_law_shuffled T.k_law_shuffled T.b_law_shuffled .nil pass0 (pa_cons (pv 0) (pa_cons (pv 1) pa_nil))) po_none (po_some (pe_call (lk_law_draw T) (hr.mono (by decide)) (by rfl) T.g_law_draw T.k_law_draw T.b_law_draw .nil pass0 (pa_cons (pv 0) (pa_cons (pe_op op_add (pe_callB call_len (by rfl) T.z_len (by decide +kernel) (pa_cons (pv 1) pa_nil)) pe_int) pa_nil))))))
      (pss_one (ps_ret (pe_callTy (LH.cr_dictP rfl) (by rfl) T.z_dict (by decide +kernel) (pa_cons (pe_lc (own := [("name", 3)]) rfl (sc_law_row).nd (pi_list (pv 2)) (blkOk_by (own := [("name", 3)]) (N := n_law_row) (sc := (defScope s_law_row)) (by decide +kernel)) (fun _ _ _ _ _ => (pg_name (i := 3) (sc_law_row).nd rfl (Or.inl rfl))) (fun _ _ _ _ _ => pts_nil) (fun _ _ _ _ _ => (pe_tup (pa_cons (pv 3) (pa_cons (pe_call (lk_law_pick T) (hr.mono (by decide)) (by rfl) T.g_law_pick T.k_law_pick T.b_law_pick .nil pass0 (pa_cons (pv 0) (pa_cons (pe_lst (pa_cons (pe_call (lk_law_draw T) (hr.mono (by decide)) (by rfl) T.g_law_draw T.k_law_draw T.b_law_draw .nil pass0 (pa_cons (pv 0) (pa_cons pe_int pa_nil))) (pa_cons (pe_op op_sub pe_int (pe_call (lk_law_draw T) (hr.mono (by decide)) (by rfl) T.g_law_draw T.k_law_draw T.b_law_draw .nil pass0 (pa_cons (pv 0) (pa_cons pe_int pa_nil)))) (pa_cons (pe_op op_pow pe_int pe_int) pa_nil)))) pa_nil))) pa_nil))))) pa_nil))))), ?_⟩
  refine spL_body (N := n_law_row) (n := 4) (fun _ => (sn_seq (sn_asgG (sn_sl sls_L (sn_call1 (sn_cons sn_var (sn_cons sn_var sn_nil))) sn_noPart (sn_part (sn_call1 (sn_cons sn_var (sn_cons (sn_op ops_int (sn_cb cls_len (sn_cons sn_var sn_nil)) sn_int) sn_nil))))) sg_name)
      (sn_ret (sn_cb cls_dictP (sn_cons (sn_lc (sni_list sn_var) sg_name (by decide) (gw_name (by decide)) sn_yes (sn_tup (sn_cons sn_var (sn_cons (sn_call1 (sn_cons sn_var (sn_cons (sn_lst (sn_cons (sn_call1 (sn_cons sn_var (sn_cons sn_int sn_nil))) (sn_cons (sn_op ops_int sn_int (sn_call1 (sn_cons sn_var (sn_cons sn_int sn_nil)))) (sn_cons (sn_op ops_intC sn_int sn_int) sn_nil)))) sn_nil))) sn_nil)))) sn_nil))))) h rfl (by rw [spL_len hlen h]; exact Nat.le_of_ble_eq_true rfl) (fun ts q h => ?_) (fun _ _ _ h => h)
  clear hlen
  obtain ⟨tp, zs, n, rfl, ok, hn, hz, hnm, h⟩ := h
  walk_at "yo"
  refine ⟨_, _, n, rfl, ok, by rw [List.length_map]; omega, by rw [List.length_map]; omega, fun us tp hp ok => ?_⟩
  obtain ⟨zs', p, rfl⟩ := perm_lift hp
  rw [List.length_map] at ok
  walk_at "ys"
  refine ⟨_, _, n + zs.length, rfl, ok, by omega, by omega, by rw [List.length_map]; omega, fun d tp d0 d1 ok => ?_⟩
  walk_at "ys"
  rw [cutT_map]
  have hc := cutT_sub zs' none (some d)
  generalize cutT zs' none (some d) = cs at hc
  have hcl : cs.length ≤ 6 := by have := hc.length_le; rw [p.length_eq] at this; omega
  have hcn : ∀ z ∈ cs, Nm z := fun z h => hnm z (p.mem_iff.mp (hc.subset h))
  refine w_klc (fun j acc ρ => ∃ (tp : LP.T) (kv : Rw), acc = kv.map pairT ∧ kv.length ≤ j ∧ (∀ q ∈ kv, (∃ z, q.1 = .inr z ∧ Nm z) ∧ ∃ i : Int, q.2 = .int i ∧ i.natAbs ≤ 10 ^ 20) ∧ PenOk (n + 7 + 3 * j) tp ∧ ρ = [some (.io tp), some (.sh (.lst (zs.map LP.T.str))), some (.sh (.lst (cs.map LP.T.str))), none]) rfl (by rw [List.length_map]; omega) rfl ⟨tp, [], rfl, Nat.le_refl _, (fun q h => by cases h), ok.mono (by omega), rfl⟩ (fun j acc t ρ2 ht ha hI => ?_) (fun acc ρ2 hI => ?_)
  · obtain ⟨tp, kv, rfl, hl, hkv, ok, rfl⟩ := hI
    have hj : j < cs.length := by
      have := (List.getElem?_eq_some_iff.mp ht).1
      rwa [List.length_map] at this
    obtain ⟨z, hz2, rfl⟩ := List.mem_map.mp (List.mem_of_getElem? ht)
    have hzn := hcn z hz2
    walk_at "ys"
    refine ⟨_, _, n + 7 + 3 * j, rfl, ok, by omega, by omega, by omega, fun u tp u0 u1 ok => ?_⟩
    walk_at "ys"
    refine ⟨_, _, n + 7 + 3 * j + 1, rfl, ok, by omega, by omega, by omega, fun v tp v0 v1 ok => ?_⟩
    walk_at "ys"
    refine ⟨_, _, n + 7 + 3 * j + 2, rfl, ok, by omega, (by show 0 < 3; decide), (by show 3 < 1000000; decide), fun x tp hx ok => ?_⟩
    obtain ⟨i, rfl, hi⟩ : ∃ i : Int, x = .int i ∧ i.natAbs ≤ 10 ^ 20 := by
      simp only [List.mem_cons, List.not_mem_nil, or_false] at hx
      rcases hx with rfl | rfl | rfl
      · exact ⟨_, rfl, by omega⟩
      · exact ⟨_, rfl, by omega⟩
      · exact ⟨_, rfl, by decide⟩
    walk_at "ys"
    refine ⟨tp, kv ++ [(.inr z, .int i)], by rw [List.map_append]; rfl, by rw [List.length_append]; show _ + 1 ≤ _; omega, fun q hq => ?_, ok.mono (by omega), rfl⟩
    rcases List.mem_append.mp hq with hq | hq
    · exact hkv q hq
    · rw [List.mem_singleton.mp hq]; exact ⟨⟨z, rfl, hzn⟩, i, rfl, hi⟩
  obtain ⟨tp, kv, rfl, hl, hkv, ok, rfl⟩ := hI
  rw [List.length_map] at hl ok
  walk_at "ys"
  refine v_dictP ?_
  walk_at "ys"
  exact w_end rfl rfl (h _ _ (row_merge (by omega) hkv) (ok.mono (by omega)))
def lPiece : LSp := fun ts q _ => ∃ (tp : LP.T) (zs : List Str) (n : Nat) (o : Option Int), ts = [tp, .lst (zs.map LP.T.str), timesT o] ∧ PenOk n tp ∧ n + 2500 < 2 ^ 62 ∧ zs.length ≤ 6 ∧ (∀ z ∈ zs, Nm z) ∧ (∀ t, o = some t → 1 ≤ t ∧ t ≤ 10 ^ 30) ∧ ∀ (p : Pc) (tp' : LP.T), PcOk p → p.times = o → PenOk (n + 2500) tp' → q (.sh p.T) tp'
theorem lk_law_piece {P : Program} {w : World} {K : PySem.W.Frag} {mg : Str → Option Value} {base : Heap} (T : Tx K mg) : FnOk P w K mg base CX0 4 T.a_law_piece T.fd_law_piece ["pen", "names", "times"] (spL true (lPiece)) := by
  have hlen : ∀ ts q x, (lPiece : LSp) ts q x → ts.length = 3 := by
    intro ts q x h
    repeat' (first | (obtain ⟨rfl, _⟩ := h; rfl) | (obtain ⟨_, h⟩ := h))
  refine T.F_law_piece.ok sc_law_piece (fun vs H Q E h => spL_len hlen h) (fun cdv A outer s H vs Q E hr h => ?_)
  refine ⟨_, (pss_cons (ps_set (i := 3) (sc_law_piece).nd rfl (Or.inl rfl) (pe_call (lk_law_pick T) (hr.mono (by decide)) (by rfl) T.g_law_pick T.k_law_pick T.b_law_pick .nil pass0 (pa_cons (pv 0) (pa_cons (pe_lst (pa_cons pe_int (pa_cons pe_int (pa_cons pe_int (pa_cons pe_int (pa_cons pe_int (pa_cons (pe_ix ix_list (pe_lst (pa_cons pe_int (pa_cons pe_int pa_nil))) (pe_callTy call_int1 (by rfl) T.z_int (by decide +kernel) (pa_cons (pe_cmpR op_eq (pe_call (lk_law_draw T) (hr.mono (by decide)) (by rfl) T.g_law_draw T.k_law_draw T.b_law_draw .nil pass0 (pa_cons (pv 0) (pa_cons pe_int pa_nil))) pe_int (nomark _)) pa_nil)) (fun _ _ => rfl)) pa_nil))))))) pa_nil))))
      (pss_cons (ps_par (i := 4) (j := 5) (by rfl) (sc_law_piece).nd rfl rfl (by decide) rfl rfl (pa_cons (pe_lc (own := [("k", 6)]) rfl (sc_law_piece).nd (pi_range1 rfl T.z_range (pa_cons (pv 3) pa_nil)) (blkOk_by (own := [("k", 6)]) (N := n_law_piece) (sc := (defScope s_law_piece)) (by decide +kernel)) (fun _ _ _ _ _ => (pg_name (i := 6) (sc_law_piece).nd rfl (Or.inl rfl))) (fun _ _ _ _ _ => pts_nil) (fun _ _ _ _ _ => (pe_call (lk_law_row T) (hr.mono (by decide)) (by rfl) T.g_law_row T.k_law_row T.b_law_row .nil pass0 (pa_cons (pv 0) (pa_cons (pv 1) pa_nil))))) (pa_cons (pe_lst pa_nil) pa_nil)) (by rfl))
      (pss_cons (ps_for PassesOwn.never rfl (pi_list (pv 4)) (pg_name (i := 7) (sc_law_piece).nd rfl (Or.inl rfl))
      (pss_one (ps_expr (pe_bm PySem.F.plainAttrs_list PySem.F.slot_list_append PySem.F.type_list_append mt_append (pv 5) (pa_cons (pe_callTy (LH.cr_dictP rfl) (by rfl) T.z_dict (by decide +kernel) (pa_cons (pe_lk (pe_lc (own := [("name", 8)]) rfl (sc_law_piece).nd (pi_keys (pv 7)) (blkOk_by (own := [("name", 8)]) (N := n_law_piece) (sc := (defScope s_law_piece)) (by decide +kernel)) (fun _ _ _ _ _ => (pg_name (i := 8) (sc_law_piece).nd rfl (Or.inl rfl))) (fun _ _ _ _ _ => pts_nil) (fun _ _ _ _ _ => (pe_tup (pa_cons (pv 8) (pa_cons (pe_call (lk_law_pick T) (hr.mono (by decide)) (by rfl) T.g_law_pick T.k_law_pick T.b_law_pick .nil pass0 (pa_cons (pv 0) (pa_cons (pe_lst (pa_cons pe_int (pa_cons pe_int (pa_cons pe_int (pa_cons (pe_un un_neg pe_int) (pa_cons (pe_op op_pow pe_int pe_int) pa_nil)))))) pa_nil))) pa_nil)))))) pa_nil)) pa_nil)))))
      (pss_one (ps_ret (pe_tup (pa_cons (pv 2) (pa_cons (pv 4) (pa_cons (pv 5) pa_nil))))))))), ?_⟩
  refine spL_body (N := n_law_piece) (n := 9) (fun _ => (sn_seq (sn_asg (sn_call1 (sn_cons sn_var (sn_cons (sn_lst (sn_cons sn_int (sn_cons sn_int (sn_cons sn_int (sn_cons sn_int (sn_cons sn_int (sn_cons (sn_op ops_ixL (sn_lst (sn_cons sn_int (sn_cons sn_int sn_nil))) (sn_cb cls_intOf (sn_cons (sn_op ops_eq (sn_call1 (sn_cons sn_var (sn_cons sn_int sn_nil))) sn_int) sn_nil))) sn_nil))))))) sn_nil))))
      (sn_seq (sn_par (by decide) (sn_cons (sn_lc (sni_rng1 (sn_cons sn_var sn_nil)) sg_name (by decide) (gw_name (by decide)) sn_yes (sn_call1 (sn_cons sn_var (sn_cons sn_var sn_nil)))) (sn_cons (sn_lst sn_nil) sn_nil)))
      (sn_seq (sn_for (sni_list sn_var) sg_name
      (fun _ => (sn_drop (sn_mut ms_append sn_var (sn_cons (sn_cb cls_dictP (sn_cons (sn_lcK (fun _ => sg_name) (by decide) (gw_name (by decide)) (fun _ => sn_yes) (fun _ => (sn_tup (sn_cons sn_var (sn_cons (sn_call1 (sn_cons sn_var (sn_cons (sn_lst (sn_cons sn_int (sn_cons sn_int (sn_cons sn_int (sn_cons (sn_un uns_un sn_int) (sn_cons (sn_op ops_intC sn_int sn_int) sn_nil)))))) sn_nil))) sn_nil))))) sn_nil)) sn_nil)))))
      (sn_ret (sn_tup (sn_cons sn_var (sn_cons sn_var (sn_cons sn_var sn_nil))))))))) h rfl (by rw [spL_len hlen h]; exact Nat.le_of_ble_eq_true rfl) (fun ts q h => ?_) (fun _ _ _ h => h)
  clear hlen
  obtain ⟨tp, zs, n, o, rfl, ok, hn, hz, hnm, ho, h⟩ := h
  walk_at "yo"
  refine ⟨_, _, n, rfl, ok, by omega, by omega, by omega, fun d tp d0 d1 ok => ?_⟩
  walk_at "ys"
  obtain ⟨mm, hmm, hi⟩ : ∃ m : Int, (m = 4 ∨ m = 60) ∧ atI [LP.T.int 4, LP.T.int 60] (if decide (d = 0) = true then 1 else 0) = some (.int m) := by
    by_cases c : d = 0
    · exact ⟨60, .inr rfl, by rw [decide_eq_true c]; rfl⟩
    · exact ⟨4, .inl rfl, by rw [decide_eq_false c]; rfl⟩
  walk_at "ys"
  refine ⟨_, _, n + 1, rfl, ok, by omega, (by show 0 < 6; decide), (by show 6 < 1000000; decide), fun x tp hx ok => ?_⟩
  obtain ⟨m, rfl, hm1, hm2⟩ : ∃ m : Nat, x = .int m ∧ 1 ≤ m ∧ m ≤ 60 := by
    simp only [List.mem_cons, List.not_mem_nil, or_false] at hx
    rcases hx with rfl | rfl | rfl | rfl | rfl | rfl
    · exact ⟨1, rfl, by decide, by decide⟩
    · exact ⟨1, rfl, by decide, by decide⟩
    · exact ⟨2, rfl, by decide, by decide⟩
    · exact ⟨3, rfl, by decide, by decide⟩
    · exact ⟨4, rfl, by decide, by decide⟩
    · rcases hmm with rfl | rfl
      · exact ⟨4, rfl, by decide, by decide⟩
      · exact ⟨60, rfl, by decide, by decide⟩
  walk_at "ys"
  refine w_klc (fun j acc ρ => ∃ (tp : LP.T) (ln : List Rw), acc = ln.map LP.T.dic ∧ ln.length = j ∧ (∀ kt ∈ ln, RowOk (10 ^ 20) kt) ∧ PenOk (n + 2 + 30 * j) tp ∧ ρ = [some (.io tp), some (.sh (.lst (zs.map LP.T.str))), some (.sh (timesT o)), some (.sh (.int m)), none, none, none, none, none]) rfl (by rw [rngT_len]; omega) rfl ⟨tp, [], rfl, rfl, (fun q h => by cases h), ok.mono (by omega), rfl⟩ (fun j acc t ρ2 ht ha hI => ?_) (fun acc ρ2 hI => ?_)
  · obtain ⟨tp, ln, rfl, hl, hkv, ok, rfl⟩ := hI
    obtain ⟨rfl, hj⟩ := rngT_get ht
    walk_at "ys"
    refine ⟨_, _, n + 2 + 30 * j, rfl, ok, by omega, hz, hnm, fun kt tp hk ok => ?_⟩
    walk_at "ys"
    refine ⟨tp, ln ++ [kt], by rw [List.map_append]; rfl, by rw [List.length_append, hl]; rfl, fun q hq => ?_, ok.mono (by omega), rfl⟩
    rcases List.mem_append.mp hq with hq | hq
    · exact hkv q hq
    · rw [List.mem_singleton.mp hq]; exact hk
  obtain ⟨tp, ln, rfl, hl, hkv, ok, rfl⟩ := hI
  rw [rngT_len] at hl ok
  walk_at "ys"
  refine w_kforM (fun k ρ => ∃ (tp : LP.T) (mo : List Rw) (o7 : Option PV), mo.length = k ∧ (∀ mt ∈ mo, RowOk (10 ^ 9) mt) ∧ (∀ (i : Nat) (kt mt : Rw), ln[i]? = some kt → mo[i]? = some mt → ∀ j, j ∈ kt.map Prod.fst → j ∈ mt.map Prod.fst) ∧ PenOk (n + 2 + 30 * m + 6 * k) tp ∧ ρ = [some (.io tp), some (.sh (.lst (zs.map LP.T.str))), some (.sh (timesT o)), some (.sh (.int m)), some (.fz (.lst (ln.map LP.T.dic))), some (.ow (.lst (mo.map LP.T.dic))), none, o7, none]) ⟨tp, [], none, rfl, (fun q h => by cases h), (fun _ _ _ _ h => by simp at h), ok, rfl⟩ (fun k kt ρ2 hk hI => ?_) (fun ρ2 hI => ?_)
  · obtain ⟨tp, mo, o7, hml, hmo, hkk, ok, rfl⟩ := hI
    have hro := hkv kt (List.mem_of_getElem? hk)
    have hkl : k < ln.length := (List.getElem?_eq_some_iff.mp hk).1
    have hrl := hro.l
    walk_at "ys"
    refine w_lcK (fun j acc ρ => ∃ (tp : LP.T) (kv : Rw), acc = kv.map pairT ∧ kv.map Prod.fst = (kt.take j).map Prod.fst ∧ (∀ q ∈ kv, (∃ z, q.1 = .inr z ∧ Nm z) ∧ ∃ i : Int, q.2 = .int i ∧ i.natAbs ≤ 10 ^ 9) ∧ PenOk (n + 2 + 30 * m + 6 * k + j) tp ∧ ρ = [some (.io tp), some (.sh (.lst (zs.map LP.T.str))), some (.sh (timesT o)), some (.sh (.int m)), some (.fz (.lst (ln.map LP.T.dic))), some (.ow (.lst (mo.map LP.T.dic))), none, some (.sh (.dic kt)), none]) rfl (j := 0) rfl rfl rfl (by omega) rfl ⟨tp, [], rfl, rfl, (fun q h => by cases h), ok, rfl⟩ (fun j acc q ρ3 hq ha hI => ?_) (fun acc ρ3 hI => ?_)
    · obtain ⟨tp, kv, rfl, hf, hv, ok, rfl⟩ := hI
      obtain ⟨key, v⟩ := q
      obtain ⟨z, rfl, hzn⟩ : ∃ z, key = .inr z ∧ Nm z := hro.k _ (List.mem_of_getElem? hq)
      have hj : j < kt.length := (List.getElem?_eq_some_iff.mp hq).1
      rw [show keyT (Sum.inr z, v).1 = .str z from rfl]
      walk_at "ys"
      refine ⟨_, _, n + 2 + 30 * m + 6 * k + j, rfl, ok, by omega, (by show 0 < 5; decide), (by show 5 < 1000000; decide), fun x tp hx ok => ?_⟩
      obtain ⟨i, rfl, hi⟩ : ∃ i : Int, x = .int i ∧ i.natAbs ≤ 10 ^ 9 := by
        simp only [List.mem_cons, List.not_mem_nil, or_false] at hx
        rcases hx with rfl | rfl | rfl | rfl | rfl <;> exact ⟨_, rfl, by decide⟩
      walk_at "ys"
      refine ⟨tp, kv ++ [(.inr z, .int i)], by rw [List.map_append]; rfl, ?_, fun q hq => ?_, ok.mono (by omega), rfl⟩
      · rw [List.map_append, hf, List.take_add_one, hq, List.map_append]
        rfl
      · rcases List.mem_append.mp hq with hq | hq
        · exact hv q hq
        · rw [List.mem_singleton.mp hq]; exact ⟨⟨z, rfl, hzn⟩, i, rfl, hi⟩
    · obtain ⟨tp, kv, rfl, hf, hv, ok, rfl⟩ := hI
      rw [List.take_length] at hf
      have hkl2 : kv.length ≤ 6 := by
        have := congrArg List.length hf
        rw [List.length_map, List.length_map] at this
        omega
      walk_at "ys"
      refine v_dictP ?_
      walk_at "ys"
      refine ⟨tp, mo ++ [mergeT [] kv], _, by rw [List.length_append, hml]; rfl, fun q hq => ?_, fun i kt' mt' h1 h2 j hj => ?_, ok.mono (by omega), by rw [List.map_append]; rfl⟩
      · rcases List.mem_append.mp hq with hq | hq
        · exact hmo q hq
        · rw [List.mem_singleton.mp hq]; exact row_merge hkl2 hv
      · by_cases c : i < mo.length
        · rw [List.getElem?_append_left c] at h2
          exact hkk i kt' mt' h1 h2 j hj
        · have hi2 := (List.getElem?_eq_some_iff.mp h2).1
          rw [List.length_append] at hi2
          have hi3 : i = mo.length := by have : ([mergeT [] kv] : List Rw).length = 1 := rfl; omega
          subst hi3
          rw [List.getElem?_append_right (Nat.le_refl _), Nat.sub_self] at h2
          have e2 : mergeT [] kv = mt' := by simpa using h2
          rw [hml, hk] at h1
          have e1 : kt = kt' := by simpa using h1
          rw [← e2, mergeT_keys]
          right
          rw [hf, e1]
          exact hj
  · obtain ⟨tp, mo, o7, hml, hmo, hkk, ok, rfl⟩ := hI
    walk_at "ys"
    have hp : PcOk ⟨o, ln, mo⟩ := ⟨by show 1 ≤ ln.length ∧ ln.length ≤ 60; omega, hml, hkv, hmo, hkk, ho⟩
    exact w_end rfl rfl (h ⟨o, ln, mo⟩ _ hp rfl (ok.mono (by omega)))
def PcsT (ps : List Pc) : LP.T := .lst (ps.map Pc.T)
def lPieces : LSp := fun ts q _ => ∃ (tp : LP.T) (zs : List Str) (n : Nat), ts = [tp, .lst (zs.map LP.T.str)] ∧ PenOk n tp ∧ n + 11000 < 2 ^ 62 ∧ zs.length ≤ 6 ∧ (∀ z ∈ zs, Nm z) ∧ ∀ (ps : List Pc) (tp' : LP.T), PcsOk ps → PenOk (n + 11000) tp' → q (.ow (PcsT ps)) tp'
theorem lk_law_pieces {P : Program} {w : World} {K : PySem.W.Frag} {mg : Str → Option Value} {base : Heap} (T : Tx K mg) : FnOk P w K mg base CX0 5 T.a_law_pieces T.fd_law_pieces ["pen", "names"] (spL true (lPieces)) := by
  have hlen : ∀ ts q x, (lPieces : LSp) ts q x → ts.length = 2 := by
    intro ts q x h
    repeat' (first | (obtain ⟨rfl, _⟩ := h; rfl) | (obtain ⟨_, h⟩ := h))
  refine T.F_law_pieces.ok sc_law_pieces (fun vs H Q E h => spL_len hlen h) (fun cdv A outer s H vs Q E hr h => ?_)
  refine ⟨_, (pss_cons (ps_set (i := 2) (sc_law_pieces).nd rfl (Or.inl rfl) (pe_lst pa_nil))
      (pss_cons (ps_for PassesOwn.never rfl (pi_range1 rfl T.z_range (pa_cons (pe_call (lk_law_draw T) (hr.mono (by decide)) (by rfl) T.g_law_draw T.k_law_draw T.b_law_draw .nil pass0 (pa_cons (pv 0) (pa_cons pe_int pa_nil))) pa_nil)) (pg_name (i := 3) (sc_law_pieces).nd rfl (Or.inl rfl))
      (pss_one (ps_expr (pe_bm PySem.F.plainAttrs_list PySem.F.slot_list_append PySem.F.type_list_append mt_append (pv 2) (pa_cons (pe_call (lk_law_piece T) (hr.mono (by decide)) (by rfl) T.g_law_piece T.k_law_piece T.b_law_piece .nil pass0 (pa_cons (pv 0) (pa_cons (pv 1) (pa_cons (pe_call (lk_law_pick T) (hr.mono (by decide)) (by rfl) T.g_law_pick T.k_law_pick T.b_law_pick .nil pass0 (pa_cons (pv 0) (pa_cons (pe_lst (pa_cons pe_int (pa_cons pe_int (pa_cons pe_int (pa_cons (pe_op op_add pe_int (pe_call (lk_law_draw T) (hr.mono (by decide)) (by rfl) T.g_law_draw T.k_law_draw T.b_law_draw .nil pass0 (pa_cons (pv 0) (pa_cons pe_int pa_nil)))) (pa_cons (pe_op op_pow pe_int pe_int) (pa_cons (pe_op op_pow pe_int pe_int) pa_nil))))))) pa_nil))) pa_nil)))) pa_nil)))))
      (pss_one (ps_ret (pe_op op_cat (pv 2) (pe_lst (pa_cons (pe_call (lk_law_piece T) (hr.mono (by decide)) (by rfl) T.g_law_piece T.k_law_piece T.b_law_piece .nil pass0 (pa_cons (pv 0) (pa_cons (pv 1) (pa_cons pe_non pa_nil)))) pa_nil))))))), ?_⟩
  refine spL_body (N := n_law_pieces) (n := 4) (fun _ => (sn_seq (sn_asg (sn_lst sn_nil))
      (sn_seq (sn_for (sni_rng1 (sn_cons (sn_call1 (sn_cons sn_var (sn_cons sn_int sn_nil))) sn_nil)) sg_name
      (fun _ => (sn_drop (sn_mut ms_append sn_var (sn_cons (sn_call1 (sn_cons sn_var (sn_cons sn_var (sn_cons (sn_call1 (sn_cons sn_var (sn_cons (sn_lst (sn_cons sn_int (sn_cons sn_int (sn_cons sn_int (sn_cons (sn_op ops_int sn_int (sn_call1 (sn_cons sn_var (sn_cons sn_int sn_nil)))) (sn_cons (sn_op ops_intC sn_int sn_int) (sn_cons (sn_op ops_intC sn_int sn_int) sn_nil))))))) sn_nil))) sn_nil)))) sn_nil)))))
      (sn_ret (sn_op ops_cat sn_var (sn_lst (sn_cons (sn_call1 (sn_cons sn_var (sn_cons sn_var (sn_cons sn_non sn_nil)))) sn_nil))))))) h rfl (by rw [spL_len hlen h]; exact Nat.le_of_ble_eq_true rfl) (fun ts q h => ?_) (fun _ _ _ h => h)
  clear hlen
  obtain ⟨tp, zs, n, rfl, ok, hn, hz, hnm, h⟩ := h
  walk_at "yo"
  refine ⟨_, _, n, rfl, ok, by omega, by omega, by omega, fun d tp d0 d1 ok => ?_⟩
  walk_at "ys"
  obtain ⟨d, rfl⟩ := Int.eq_ofNat_of_zero_le d0
  walk_at "ys"
  refine w_kforR0 (fun k ρ => ∃ (tp : LP.T) (ps : List Pc) (o : Option PV), ps.length = k ∧ (∀ p ∈ ps, PcOk p) ∧ PenOk (n + 1 + 2510 * k) tp ∧ ρ = [some (.io tp), some (.sh (.lst (zs.map LP.T.str))), some (.ow (.lst (ps.map Pc.T))), o]) ⟨tp, [], none, rfl, (fun q h => by cases h), ok, rfl⟩ (fun k ρ2 hk hI => ?_) (fun ρ2 hI => ?_)
  · obtain ⟨tp, ps, o, hl, hps, ok, rfl⟩ := hI
    walk_at "ys"
    refine ⟨_, _, n + 1 + 2510 * k, rfl, ok, by omega, by omega, by omega, fun u tp u0 u1 ok => ?_⟩
    walk_at "ys"
    refine ⟨_, _, n + 1 + 2510 * k + 1, rfl, ok, by omega, (by show 0 < 6; decide), (by show 6 < 1000000; decide), fun x tp hx ok => ?_⟩
    obtain ⟨t, rfl, ht⟩ : ∃ t : Int, x = .int t ∧ 1 ≤ t ∧ t ≤ 10 ^ 30 := by
      simp only [List.mem_cons, List.not_mem_nil, or_false] at hx
      rcases hx with rfl | rfl | rfl | rfl | rfl | rfl
      · exact ⟨_, rfl, by decide⟩
      · exact ⟨_, rfl, by decide⟩
      · exact ⟨_, rfl, by decide⟩
      · exact ⟨_, rfl, by omega, by omega⟩
      · exact ⟨_, rfl, by decide⟩
      · exact ⟨_, rfl, by decide⟩
    walk_at "ys"
    refine ⟨_, zs, n + 1 + 2510 * k + 2, some t, rfl, ok, by omega, hz, hnm, (fun t' e => by cases e; exact ht), fun p tp hp _ ok => ?_⟩
    walk_at "ys"
    refine ⟨tp, ps ++ [p], _, by rw [List.length_append, hl]; rfl, fun q hq => ?_, ok.mono (by omega), by rw [List.map_append]; rfl⟩
    rcases List.mem_append.mp hq with hq | hq
    · exact hps q hq
    · rw [List.mem_singleton.mp hq]; exact hp
  · obtain ⟨tp, ps, o, hl, hps, ok, rfl⟩ := hI
    walk_at "ys"
    refine ⟨_, zs, n + 1 + 2510 * d, none, rfl, ok, by omega, hz, hnm, (fun t' e => by cases e), fun p tp hp hn ok => ?_⟩
    walk_at "ys"
    have hpp : PcsOk (ps ++ [p]) := by
      refine ⟨by rw [List.length_append]; show _ + 1 ≤ _; omega, fun q hq => ?_, p, by simp, hn⟩
      rcases List.mem_append.mp hq with hq | hq
      · exact hps q hq
      · rw [List.mem_singleton.mp hq]; exact hp
    have hh := h (ps ++ [p]) tp hpp (ok.mono (by omega))
    unfold PcsT at hh
    rw [List.map_append] at hh
    exact w_end rfl rfl hh
theorem mul_b {a b : Int} (h1 : 1 ≤ a) (h2 : a ≤ 60) (h3 : 1 ≤ b ∧ b ≤ 10 ^ 30) : 1 ≤ a * b ∧ a * b ≤ 60 * 10 ^ 30 :=
  ⟨by have := Int.mul_le_mul h1 h3.1 (by decide) (by omega); omega, Int.mul_le_mul h2 h3.2 (by omega) (by decide)⟩
def lHouses : LSp := fun ts q _ => ∃ (tp : LP.T) (t : Tolls) (n : Nat), ts = [tp, t.T] ∧ PenOk n tp ∧ n + 30 < 2 ^ 62 ∧ TlOk t ∧ ∀ (hs : List Int) (tp' : LP.T), (∀ h ∈ hs, h.natAbs ≤ 10 ^ 34) → hs.length ≤ 200 → PenOk (n + 30) tp' → q (.ow (.lst (hs.map LP.T.int))) tp'
abbrev sideT (x : Int × Int × List Pc) : LP.T := .tup [.int x.1, .int x.2.1, .lst (x.2.2.map Pc.T)]
theorem lk_law_houses {P : Program} {w : World} {K : PySem.W.Frag} {mg : Str → Option Value} {base : Heap} (T : Tx K mg) : FnOk P w K mg base CX0 2 T.a_law_houses T.fd_law_houses ["pen", "tolls"] (spL true (lHouses)) := by
  have hlen : ∀ ts q x, (lHouses : LSp) ts q x → ts.length = 2 := by
    intro ts q x h
    repeat' (first | (obtain ⟨rfl, _⟩ := h; rfl) | (obtain ⟨_, h⟩ := h))
  refine T.F_law_houses.ok sc_law_houses (fun vs H Q E h => spL_len hlen h) (fun cdv A outer s H vs Q E hr h => ?_)
  refine ⟨_, (pss_cons (ps_asg (pv 1) (pg_tup rfl (pgs_cons (pg_name (i := 2) (sc_law_houses).nd rfl (Or.inl rfl)) (pgs_cons (pg_name (i := 3) (sc_law_houses).nd rfl (Or.inl rfl)) (pgs_cons (pg_name (i := 4) (sc_law_houses).nd rfl (Or.inl rfl)) (pgs_cons (pg_name (i := 5) (sc_law_houses).nd rfl (Or.inl rfl)) pgs_nil))))))
      (pss_cons (ps_set (i := 6) (sc_law_houses).nd rfl (Or.inl rfl) (pe_lst (pa_cons (pe_op op_sub (pv 2) pe_int) (pa_cons (pv 2) (pa_cons (pe_op op_sub (pe_op op_add (pv 2) (pe_callB call_len (by rfl) T.z_len (by decide +kernel) (pa_cons (pv 3) pa_nil))) pe_int) (pa_cons (pe_op op_add (pv 2) (pe_callB call_len (by rfl) T.z_len (by decide +kernel) (pa_cons (pv 3) pa_nil))) (pa_cons (pe_op op_sub (pe_call (lk_law_draw T) (hr.mono (by decide)) (by rfl) T.g_law_draw T.k_law_draw T.b_law_draw .nil pass0 (pa_cons (pv 0) (pa_cons (pe_op op_pow pe_int pe_int) pa_nil))) (pe_op op_pow pe_int pe_int)) pa_nil)))))))
      (pss_cons (ps_for PassesOwn.never rfl (pi_list (pe_lst (pa_cons (pe_tup (pa_cons (pe_un un_neg pe_int) (pa_cons (pe_op op_sub (pv 2) pe_int) (pa_cons (pv 4) pa_nil)))) (pa_cons (pe_tup (pa_cons pe_int (pa_cons (pe_op op_add (pv 2) (pe_callB call_len (by rfl) T.z_len (by decide +kernel) (pa_cons (pv 3) pa_nil))) (pa_cons (pv 5) pa_nil)))) pa_nil)))) (pg_tup rfl (pgs_cons (pg_name (i := 7) (sc_law_houses).nd rfl (Or.inr rfl)) (pgs_cons (pg_name (i := 8) (sc_law_houses).nd rfl (Or.inr rfl)) (pgs_cons (pg_name (i := 9) (sc_law_houses).nd rfl (Or.inl rfl)) pgs_nil))))
      (pss_cons (ps_set (i := 10) (sc_law_houses).nd rfl (Or.inr rfl) pe_int)
      (pss_one (ps_for PassesOwn.never rfl (pi_list (pv 9)) (pg_tup rfl (pgs_cons (pg_name (i := 11) (sc_law_houses).nd rfl (Or.inl rfl)) (pgs_cons (pg_name (i := 12) (sc_law_houses).nd rfl (Or.inl rfl)) (pgs_cons (pg_name (i := 13) (sc_law_houses).nd rfl (Or.inl rfl)) pgs_nil))))
      (pss_cons (ps_set (i := 14) (sc_law_houses).nd rfl (Or.inl rfl) (pe_op op_mul (pe_callB call_len (by rfl) T.z_len (by decide +kernel) (pa_cons (pv 12) pa_nil)) (pe_ifExp (pt_cmpR op_isN (pv 11) pe_non (nomark _)) pe_int (pv 11))))
      (pss_cons (ps_set (i := 15) (sc_law_houses).nd rfl (Or.inl rfl) (pe_lst (pa_cons pe_int (pa_cons pe_int (pa_cons (pe_op op_sub (pe_callB call_len (by rfl) T.z_len (by decide +kernel) (pa_cons (pv 12) pa_nil)) pe_int) (pa_cons (pe_callB call_len (by rfl) T.z_len (by decide +kernel) (pa_cons (pv 12) pa_nil)) (pa_cons (pe_op op_sub (pv 14) pe_int) (pa_cons (pv 14) (pa_cons (pe_call (lk_law_draw T) (hr.mono (by decide)) (by rfl) T.g_law_draw T.k_law_draw T.b_law_draw .nil pass0 (pa_cons (pv 0) (pa_cons (pv 14) pa_nil))) pa_nil)))))))))
      (pss_cons (ps_expr (pe_bm PySem.F.plainAttrs_list PySem.F.slot_list_extend PySem.F.type_list_extend mt_extend (pv 6) (pa_cons (pe_lc (own := [("spot", 16)]) rfl (sc_law_houses).nd (pi_list (pv 15)) (blkOk_by (own := [("spot", 16)]) (N := n_law_houses) (sc := (defScope s_law_houses)) (by decide +kernel)) (fun _ _ _ _ _ => (pg_name (i := 16) (sc_law_houses).nd rfl (Or.inl rfl))) (fun _ _ _ _ _ => pts_nil) (fun _ _ _ _ _ => (pe_op op_add (pv 8) (pe_op op_mul (pv 7) (pe_op op_add (pv 10) (pv 16)))))) pa_nil)))
      (pss_one (ps_set (i := 10) (sc_law_houses).nd rfl (Or.inr rfl) (pe_op op_add (pv 10) (pv 14)))))))))))
      (pss_one (ps_ret (pv 6)))))), ?_⟩
  refine spL_body (N := n_law_houses) (n := 17) (fun _ => (sn_seq (sn_asgG sn_var (sg_tup (sg_cons sg_name (sg_cons sg_name (sg_cons sg_name (sg_cons sg_name sg_nil))))))
      (sn_seq (sn_asg (sn_lst (sn_cons (sn_op ops_int sn_var sn_int) (sn_cons sn_var (sn_cons (sn_op ops_int (sn_op ops_int sn_var (sn_cb cls_len (sn_cons sn_var sn_nil))) sn_int) (sn_cons (sn_op ops_int sn_var (sn_cb cls_len (sn_cons sn_var sn_nil))) (sn_cons (sn_op ops_int (sn_call1 (sn_cons sn_var (sn_cons (sn_op ops_intC sn_int sn_int) sn_nil))) (sn_op ops_intC sn_int sn_int)) sn_nil)))))))
      (sn_seq (sn_for (sni_list (sn_lst (sn_cons (sn_tup (sn_cons (sn_un uns_un sn_int) (sn_cons (sn_op ops_int sn_var sn_int) (sn_cons sn_var sn_nil)))) (sn_cons (sn_tup (sn_cons sn_int (sn_cons (sn_op ops_int sn_var (sn_cb cls_len (sn_cons sn_var sn_nil))) (sn_cons sn_var sn_nil)))) sn_nil)))) (sg_tup (sg_cons sg_name (sg_cons sg_name (sg_cons sg_name sg_nil))))
      (fun _ => (sn_seq (sn_asg sn_int)
      (sn_for (sni_list sn_var) (sg_tup (sg_cons sg_name (sg_cons sg_name (sg_cons sg_name sg_nil))))
      (fun _ => (sn_seq (sn_asg (sn_op ops_intC (sn_cb cls_len (sn_cons sn_var sn_nil)) (sn_if (sn_test (sn_op ops_isN sn_var sn_non)) sn_int sn_var)))
      (sn_seq (sn_asgG (sn_lst (sn_cons sn_int (sn_cons sn_int (sn_cons (sn_op ops_int (sn_cb cls_len (sn_cons sn_var sn_nil)) sn_int) (sn_cons (sn_cb cls_len (sn_cons sn_var sn_nil)) (sn_cons (sn_op ops_int sn_var sn_int) (sn_cons sn_var (sn_cons (sn_call1 (sn_cons sn_var (sn_cons sn_var sn_nil))) sn_nil)))))))) sg_name)
      (sn_seq (sn_drop (sn_mut ms_extend sn_var (sn_cons (sn_lc (sni_list sn_var) sg_name (by decide) (gw_name (by decide)) sn_yes (sn_op ops_int sn_var (sn_op ops_intC sn_var (sn_op ops_int sn_var sn_var)))) sn_nil)))
      (sn_asg (sn_op ops_int sn_var sn_var))))))))))
      (sn_ret sn_var))))) h rfl (by rw [spL_len hlen h]; exact Nat.le_of_ble_eq_true rfl) (fun ts q h => ?_) (fun _ _ _ h => h)
  clear hlen
  obtain ⟨tp, t, n, rfl, ok, hn, ht, h⟩ := h
  have hf := ht.f
  have hs := ht.s
  unfold Tolls.T
  walk_at "yo"
  refine ⟨_, _, n, rfl, ok, by omega, by decide, by decide, fun d tp d0 d1 ok => ?_⟩
  walk_at "ys"
  rw [List.length_map]
  have d1 : d < 10 ^ 30 := d1
  refine w_kforM (f := sideT) (xs := [(-1, t.first - 1, t.lefts), (1, t.first + t.stretch.length, t.rights)]) (fun k ρ => ∃ (tp : LP.T) (hs : List Int) (o7 o8 o9 o10 o11 o12 o13 o14 o15 : Option PV), (∀ h ∈ hs, h.natAbs ≤ 10 ^ 34) ∧ hs.length ≤ 5 + 70 * k ∧ PenOk (n + 1 + 10 * k) tp ∧ ρ = [some (.io tp), some (.sh t.T), some (.sh (.int t.first)), some (.sh (.lst (t.stretch.map LP.T.dic))), some (.sh (.lst (t.lefts.map Pc.T))), some (.sh (.lst (t.rights.map Pc.T))), some (.ow (.lst (hs.map LP.T.int))), o7, o8, o9, o10, o11, o12, o13, o14, o15, none]) ⟨tp, [t.first - 1, t.first, t.first + t.stretch.length - 1, t.first + t.stretch.length, d - 10 ^ 29], none, none, none, none, none, none, none, none, none, fun x hx => ?_, by simp, ok, rfl⟩ (fun k x ρ2 hk hI => ?_) (fun ρ2 hI => ?_)
  · simp only [List.mem_cons, List.not_mem_nil, or_false] at hx
    rcases hx with rfl | rfl | rfl | rfl | rfl <;> omega
  · obtain ⟨tp, hs', o7, o8, o9, o10, o11, o12, o13, o14, o15, hh, hl, ok, rfl⟩ := hI
    obtain ⟨sg, bg, ps⟩ := x
    obtain ⟨hsg, hbg, hps⟩ : (sg = 1 ∨ sg = -1) ∧ bg.natAbs ≤ 3000 ∧ PcsOk ps := by
      have := List.mem_of_getElem? hk
      simp only [List.mem_cons, List.not_mem_nil, or_false, Prod.mk.injEq] at this
      rcases this with ⟨rfl, rfl, rfl⟩ | ⟨rfl, rfl, rfl⟩
      · exact ⟨.inr rfl, by omega, ht.a⟩
      · exact ⟨.inl rfl, by omega, ht.b⟩
    have hk2 : k < 2 := (List.getElem?_eq_some_iff.mp hk).1
    have hpn := hps.n
    walk_at "ys"
    refine w_kforM (fun j ρ => ∃ (tp : LP.T) (hs : List Int) (far : Int) (o11 o12 o13 o14 o15 : Option PV), (∀ h ∈ hs, h.natAbs ≤ 10 ^ 34) ∧ 0 ≤ far ∧ far ≤ 10 ^ 32 * j ∧ hs.length ≤ 5 + 70 * k + 7 * j ∧ PenOk (n + 1 + 10 * k + j) tp ∧ ρ = [some (.io tp), some (.sh t.T), some (.sh (.int t.first)), some (.sh (.lst (t.stretch.map LP.T.dic))), some (.sh (.lst (t.lefts.map Pc.T))), some (.sh (.lst (t.rights.map Pc.T))), some (.ow (.lst (hs.map LP.T.int))), some (.sh (.int sg)), some (.sh (.int bg)), some (.sh (.lst (ps.map Pc.T))), some (.sh (.int far)), o11, o12, o13, o14, o15, none]) ⟨tp, hs', 0, _, _, _, _, _, hh, Int.le_refl _, by omega, hl, ok, rfl⟩ (fun j p ρ3 hj hI => ?_) (fun ρ3 hI => ?_)
    · obtain ⟨tp, hs', far, o11, o12, o13, o14, o15, hh, f0, f1, hl, ok, rfl⟩ := hI
      have hp := hps.o p (List.mem_of_getElem? hj)
      have hj2 : j < ps.length := (List.getElem?_eq_some_iff.mp hj).1
      have hpl := hp.l
      rw [show p.T = .tup [timesT p.times, .lst (p.lane.map LP.T.dic), .lst (p.more.map LP.T.dic)] from rfl]
      walk_at "ys"
      cases et : p.times with
      | none =>
        rw [show isNonT (timesT none) = true from rfl]
        have hS : 1 ≤ (p.lane.length : Int) * 9 ∧ (p.lane.length : Int) * 9 ≤ 60 * 10 ^ 30 := mul_b (by omega) (by omega) (by decide)
        have cm : L2.CMul ((p.lane.map LP.T.dic).length : Int) 9 := Or.inl (by rw [List.length_map]; omega)
        walk_at "ys"
        simp only [List.length_map]
        generalize (p.lane.length : Int) * 9 = S at hS ⊢
        refine ⟨_, _, n + 1 + 10 * k + j, rfl, ok, by omega, by omega, by omega, fun e tp e0 e1 ok => ?_⟩
        walk_at "ys"
        refine w_klcA (f := LP.T.int) (xs := [0, 1, (p.lane.length : Int) - 1, p.lane.length, S - 1, S, e]) (fun s => .int (bg + sg * (far + s))) rfl (by simp) rfl (fun s hs N1 n1 ρ3 e3 => ?_) ?_
        · subst e3
          have cm : L2.CMul sg (far + s) := Or.inl (by omega)
          walk_at "ys"
          exact n1
        have hxs : ∀ s ∈ [0, 1, (p.lane.length : Int) - 1, p.lane.length, S - 1, S, e], (bg + sg * (far + s)).natAbs ≤ 10 ^ 34 := by
          intro s hs
          have h0 : 0 ≤ s ∧ s ≤ 60 * 10 ^ 30 := by
            simp only [List.mem_cons, List.not_mem_nil, or_false] at hs
            rcases hs with rfl | rfl | rfl | rfl | rfl | rfl | rfl <;> omega
          have h1 : far ≤ 10 ^ 32 * 10 := by omega
          rcases hsg with rfl | rfl <;> omega
        have hxl : ([0, 1, (p.lane.length : Int) - 1, p.lane.length, S - 1, S, e] : List Int).length = 7 := rfl
        generalize ([0, 1, (p.lane.length : Int) - 1, p.lane.length, S - 1, S, e] : List Int) = xs at hxs hxl ⊢
        have hle : (hs'.map LP.T.int).length + (xs.map fun s => LP.T.int (bg + sg * (far + s))).length ≤ 16777216 := by rw [List.length_map, List.length_map]; omega
        walk_at "ys"
        refine w_extend hle ?_
        walk_at "ys"
        rw [show (hs'.map LP.T.int ++ xs.map fun s => LP.T.int (bg + sg * (far + s))) = (hs' ++ xs.map fun s => bg + sg * (far + s)).map LP.T.int by rw [List.map_append, List.map_map]; rfl]
        refine ⟨tp, hs' ++ xs.map fun s => bg + sg * (far + s), far + S, _, _, _, _, _, fun x hx => ?_, by omega, by omega, by rw [List.length_append, List.length_map]; omega, ok, rfl⟩
        rcases List.mem_append.mp hx with hx | hx
        · exact hh x hx
        · obtain ⟨s, hs, rfl⟩ := List.mem_map.mp hx
          exact hxs s hs
      | some t' =>
        have htt := hp.t t' et
        rw [show isNonT (timesT (some t')) = false from rfl, show timesT (some t') = .int t' from rfl]
        have hS : 1 ≤ (p.lane.length : Int) * t' ∧ (p.lane.length : Int) * t' ≤ 60 * 10 ^ 30 := mul_b (by omega) (by omega) htt
        have cm : L2.CMul ((p.lane.map LP.T.dic).length : Int) t' := Or.inl (by rw [List.length_map]; omega)
        walk_at "ys"
        simp only [List.length_map]
        generalize (p.lane.length : Int) * t' = S at hS ⊢
        refine ⟨_, _, n + 1 + 10 * k + j, rfl, ok, by omega, by omega, by omega, fun e tp e0 e1 ok => ?_⟩
        walk_at "ys"
        refine w_klcA (f := LP.T.int) (xs := [0, 1, (p.lane.length : Int) - 1, p.lane.length, S - 1, S, e]) (fun s => .int (bg + sg * (far + s))) rfl (by simp) rfl (fun s hs N1 n1 ρ3 e3 => ?_) ?_
        · subst e3
          have cm : L2.CMul sg (far + s) := Or.inl (by omega)
          walk_at "ys"
          exact n1
        have hxs : ∀ s ∈ [0, 1, (p.lane.length : Int) - 1, p.lane.length, S - 1, S, e], (bg + sg * (far + s)).natAbs ≤ 10 ^ 34 := by
          intro s hs
          have h0 : 0 ≤ s ∧ s ≤ 60 * 10 ^ 30 := by
            simp only [List.mem_cons, List.not_mem_nil, or_false] at hs
            rcases hs with rfl | rfl | rfl | rfl | rfl | rfl | rfl <;> omega
          have h1 : far ≤ 10 ^ 32 * 10 := by omega
          rcases hsg with rfl | rfl <;> omega
        have hxl : ([0, 1, (p.lane.length : Int) - 1, p.lane.length, S - 1, S, e] : List Int).length = 7 := rfl
        generalize ([0, 1, (p.lane.length : Int) - 1, p.lane.length, S - 1, S, e] : List Int) = xs at hxs hxl ⊢
        have hle : (hs'.map LP.T.int).length + (xs.map fun s => LP.T.int (bg + sg * (far + s))).length ≤ 16777216 := by rw [List.length_map, List.length_map]; omega
        walk_at "ys"
        refine w_extend hle ?_
        walk_at "ys"
        rw [show (hs'.map LP.T.int ++ xs.map fun s => LP.T.int (bg + sg * (far + s))) = (hs' ++ xs.map fun s => bg + sg * (far + s)).map LP.T.int by rw [List.map_append, List.map_map]; rfl]
        refine ⟨tp, hs' ++ xs.map fun s => bg + sg * (far + s), far + S, _, _, _, _, _, fun x hx => ?_, by omega, by omega, by rw [List.length_append, List.length_map]; omega, ok, rfl⟩
        rcases List.mem_append.mp hx with hx | hx
        · exact hh x hx
        · obtain ⟨s, hs, rfl⟩ := List.mem_map.mp hx
          exact hxs s hs
    · obtain ⟨tp, hs', far, o11, o12, o13, o14, o15, hh, f0, f1, hl, ok, rfl⟩ := hI
      exact ⟨_, _, _, _, _, _, _, _, _, _, _, hh, by omega, ok.mono (by omega), rfl⟩
  · obtain ⟨tp, hs', o7, o8, o9, o10, o11, o12, o13, o14, o15, hh, hl, ok, rfl⟩ := hI
    have hl : hs'.length ≤ 5 + 70 * 2 := hl
    have ok : PenOk (n + 1 + 10 * 2) tp := ok
    walk_at "ys"
    exact w_end rfl rfl (h _ _ hh (by omega) (ok.mono (by omega)))
end LH
end
section
set_option maxRecDepth 100000
set_option maxHeartbeats 4000000
namespace LH
open PySem L2 LP
local macro_rules | `(tactic| walk_at "nf") => `(tactic| ((try simp only [List.set_cons_zero, List.set_cons_succ, List.set_nil, wipeE]); exact rfl))
local macro_rules | `(tactic| walk_at "dg") => `(tactic| first | assumption | exact rfl)
local macro_rules | `(tactic| walk_at "y1") => `(tactic| first
  | (with_reducible refine' w_seq ?_)
  | ((with_reducible refine' w_var ?e ?_); (case e => exact rfl))
  | (with_reducible refine' w_c ?_)
  | (with_reducible refine' w_op ?_)
  | ((with_reducible refine' w_kop ?e1 ?e2 ?_); (case e1 => exact rfl); (case e2 => exact rfl))
  | (with_reducible refine' w_un ?_)
  | ((with_reducible refine' w_kun ?e1 ?_); (case e1 => exact rfl))
  | (with_reducible refine' w_nil ?_)
  | (with_reducible refine' w_cons ?_)
  | (with_reducible refine' w_cb ?_)
  | ((with_reducible refine' w_kcb ?e ?_); (case e => exact rfl))
  | (with_reducible refine' w_lst ?_)
  | ((with_reducible refine' w_klst ?e ?l ?_); (case e => exact rfl); (case l => first | exact (Nat.le_of_ble_eq_true rfl) | (simp only [List.length_cons, List.length_nil]; omega)))
  | (with_reducible refine' w_tup ?_)
  | ((with_reducible refine' w_ktup ?e ?l ?_); (case e => exact rfl); (case l => first | exact (Nat.le_of_ble_eq_true rfl) | (simp only [List.length_cons, List.length_nil]; omega)))
  | (with_reducible refine' w_test ?_)
  | (with_reducible refine' w_kbl ?_)
  | (with_reducible refine' w_tru ?_)
  | (with_reducible refine' w_and ?_)
  | (with_reducible refine' w_or ?_)
  | (with_reducible refine' w_not ?_)
  | (with_reducible refine' w_yes ?_)
  | (with_reducible refine' w_andV ?_)
  | (with_reducible refine' w_orV ?_)
  | (with_reducible refine' w_notV ?_)
  | (with_reducible refine' w_if ?_)
  | (with_reducible refine' w_chain ?_)
  | ((with_reducible refine' w_kch1 ?e1 ?e2 ?_); (case e1 => exact rfl); (case e2 => exact rfl))
  | (with_reducible refine' w_dget ?_)
  | ((with_reducible refine' w_kdget ?e1 ?e2 ?e3 ?_); (case e1 => exact rfl); (case e2 => exact rfl); (case e3 => walk_at "dg"))
  | (with_reducible refine' w_din ?_)
  | ((with_reducible refine' w_kdin ?e1 ?e2 ?e3 ?_); (case e1 => exact rfl); (case e2 => exact rfl); (case e3 => walk_at "dg"))
  | ((with_reducible refine' w_kdnotin ?e1 ?e2 ?e3 ?_); (case e1 => exact rfl); (case e2 => exact rfl); (case e3 => walk_at "dg"))
  | (with_reducible refine' w_dnew ?_)
  | (with_reducible refine' w_dnewT ?_)
  | (with_reducible refine' w_fld ?_)
  | ((with_reducible refine' w_kfld ?e ?c ?n ?e2 ?_); (case e => exact rfl); (case c => assumption); (case n => assumption); (case e2 => walk_at "lk"))
  | (with_reducible refine' w_sl ?_)
  | (with_reducible refine' w_noPart ?_)
  | (with_reducible refine' w_part ?_)
  | ((with_reducible refine' w_kpart ?e ?_); (case e => exact rfl))
  | ((with_reducible refine' w_ksl ?e ?_); (case e => exact rfl))
  | (with_reducible refine' w_vslL ?_)
  | (with_reducible refine' w_rev ?_)
  | ((with_reducible refine' w_krev ?e ?_); (case e => exact rfl))
  | (with_reducible refine' w_revT ?_)
  | ((with_reducible refine' w_krevT ?e ?_); (case e => exact rfl))
  | ((with_reducible refine' v_catA ?l ?_); (case l => walk_at "ln"))
  | (with_reducible refine' v_slA ?_)
  | ((with_reducible refine' v_isi_int ?h ?_); (case h => walk_at "kn"))
  | ((with_reducible refine' v_isi_bool ?h ?_); (case h => walk_at "kn"))
  | ((with_reducible refine' v_isi_str ?h ?_); (case h => walk_at "kn"))
  | ((with_reducible refine' v_isi_tup ?h ?_); (case h => walk_at "kn"))
  | ((with_reducible refine' v_isi_lst ?h ?_); (case h => walk_at "kn"))
  | (with_reducible refine' w_inRg ?_)
  | ((with_reducible refine' w_kinRgN ?e1 ?e2 ?_); (case e1 => exact rfl); (case e2 => exact rfl))
  | ((with_reducible refine' w_kinRg ?e1 ?e2 ?_); (case e1 => exact rfl); (case e2 => exact rfl))
  | (with_reducible refine' w_call0X ?_)
  | ((with_reducible refine' w_kcall0X ?e ?_); (case e => exact rfl))
  | (with_reducible refine' w_call1X ?_)
  | ((with_reducible refine' w_kcall1X ?e ?e2 ?_); (case e => exact rfl); (case e2 => exact rfl))
  | (with_reducible refine' w_meth1X ?_)
  | ((with_reducible refine' w_kmeth1X ?e ?o ?_); (case e => exact rfl); (case o => walk_at "op"))
  | (with_reducible refine' w_methTX ?_)
  | ((with_reducible refine' w_kmethTX ?o ?_); (case o => walk_at "op"))
  | ((with_reducible refine' w_kcallTX ?e ?_); (case e => exact rfl))
  | (with_reducible refine' w_raise ?_)
  | ((with_reducible refine' w_kraise ?e ?e2 ?l1 ?l2 ?e3 ?_); (case e => exact rfl); (case e2 => exact rfl); (case l1 => exact rfl); (case l2 => exact (Nat.le_of_ble_eq_true rfl)); (case e3 => exact rfl))
  | (with_reducible refine' w_try ?_)
  | (with_reducible refine' w_snx ?_)
  | (with_reducible refine' w_srt ?_)
  | ((with_reducible refine' w_behind ?k ?e ?_); (case k => walk_at "cx"); (case e => walk_at "nc"))
  | ((with_reducible refine' w_behindR ?k ?n ?e ?_); (case k => walk_at "cx"); (case n => exact (fun _ _ _ _ z => PV.noConfusion z)); (case e => walk_at "nc"))
  | (with_reducible refine' w_xf ?_)
  | ((with_reducible refine' w_kxf ?e ?_); (case e => walk_at "lk"))
  | (with_reducible refine' w_xk ?_)
  | ((with_reducible refine' w_kxk ?e ?x ?n ?e2 ?_); (case e => exact rfl); (case x => assumption); (case n => assumption); (case e2 => walk_at "lk"))
  | (with_reducible refine' w_bm ?_)
  | ((with_reducible refine' w_kbm1 ?e ?t ?_); (case e => exact rfl); (case t => exact rfl))
  | ((with_reducible refine' w_kbm2 ?e ?e2 ?_); (case e => exact rfl); (case e2 => exact rfl))
  | (with_reducible refine' w_m1 ?_)
  | (with_reducible refine' w_kstr ?_)
  | ((with_reducible refine' w_km1 ?e ?_); (case e => exact rfl))
  | (with_reducible refine' w_next ?_)
  | (with_reducible refine' w_break ?_)
  | (with_reducible refine' w_cont ?_)
  | (with_reducible refine' w_ifS ?_)
  | (with_reducible refine' w_ret ?_)
  | (with_reducible refine' w_retN ?_)
  | (with_reducible refine' w_drop ?_)
  | (with_reducible refine' w_asg ?_)
  | ((with_reducible refine' w_kasg ?e ?e2 ?_); (case e => exact rfl); (case e2 => walk_at "nf"))
  | (with_reducible refine' w_asgG ?_)
  | ((with_reducible refine' w_kasgG ?e ?_); (case e => exact rfl))
  | ((with_reducible refine' w_gName ?e ?_); (case e => walk_at "nf"))
  | (with_reducible refine' w_gNil ?_)
  | (with_reducible refine' w_gCons ?_)
  | ((with_reducible refine' w_gTup ?l ?_); (case l => exact rfl))
  | (with_reducible refine' w_par ?_)
  | ((with_reducible refine' w_kpar ?e1 ?e2 ?n ?e3 ?_); (case e1 => exact rfl); (case e2 => exact rfl); (case n => exact (fun _ z => PV.noConfusion z)); (case e3 => walk_at "nf"))
  | (with_reducible refine' w_get1 ?_)
  | ((with_reducible refine' w_kget1 ?e ?_); (case e => exact rfl))
  | ((with_reducible refine' w_kget2 ?e1 ?e2 ?e3 ?_); (case e1 => exact rfl); (case e2 => exact rfl); (case e3 => exact rfl))
  | (with_reducible refine' w_parS ?_)
  | ((with_reducible refine' w_kparS ?e1 ?e2 ?n ?e3 ?_); (case e1 => exact rfl); (case e2 => exact rfl); (case n => exact (fun _ z => PV.noConfusion z)); (case e3 => walk_at "nf"))
  | (with_reducible refine' w_par3 ?_)
  | ((with_reducible refine' w_kpar3 ?n1 ?n2 ?e1 ?e2 ?e3 ?e4 ?_); (case n1 => exact (fun _ z => PV.noConfusion z)); (case n2 => exact (fun _ z => PV.noConfusion z)); (case e1 => exact rfl); (case e2 => exact rfl); (case e3 => exact rfl); (case e4 => walk_at "nf"))
  | (with_reducible refine' w_mut ?_)
  | ((with_reducible refine' w_kmut1 ?e ?_); (case e => exact rfl))
  | ((with_reducible refine' w_kmut2 ?e ?e2 ?_); (case e => exact rfl); (case e2 => exact rfl))
  | (with_reducible refine' w_mut0 ?_)
  | ((with_reducible refine' w_kmut0 ?e ?_); (case e => exact rfl))
  | ((with_reducible refine' w_append ?l ?_); (case l => walk_at "ln"))
  | (with_reducible refine' w_clear ?_)
  | (with_reducible refine' w_reverse ?_)
  | (with_reducible refine' w_dput ?_)
  | ((with_reducible refine' w_kdput ?e1 ?e2 ?e3 ?e4 ?l ?e5 ?_); (case e1 => exact rfl); (case e2 => exact rfl); (case e3 => exact rfl); (case e4 => walk_at "dg"); (case l => walk_at "ln"); (case e5 => walk_at "nf"))
  | (with_reducible refine' w_setL ?_)
  | ((with_reducible refine' w_ksetL1 ?e ?_); (case e => exact rfl))
  | ((with_reducible refine' w_aug ?e ?_); (case e => exact rfl))
  | ((with_reducible refine' w_kaug ?e1 ?e2 ?_); (case e1 => exact rfl); (case e2 => exact rfl))
  | (with_reducible refine' w_ksh ?_)
  | ((with_reducible refine' w_kset ?e ?_); (case e => walk_at "nf"))
  | (with_reducible refine' w_call0 ?_)
  | ((with_reducible refine' w_kcall0 ?e ?_); (case e => exact rfl))
  | (with_reducible refine' w_call1 ?_)
  | (with_reducible refine' w_khd ?_)
  | ((with_reducible refine' w_kcall1 ?e ?e2 ?_); (case e => exact rfl); (case e2 => exact rfl))
  | (with_reducible refine' w_meth0 ?_)
  | ((with_reducible refine' w_kmeth0 ?e ?e2 ?_); (case e => exact rfl); (case e2 => walk_at "lk"))
  | (with_reducible refine' w_meth1 ?_)
  | ((with_reducible refine' w_kmeth1 ?e ?o ?_); (case e => exact rfl); (case o => walk_at "op"))
  | (with_reducible refine' w_methT ?_)
  | ((with_reducible refine' w_kmethT ?o ?_); (case o => walk_at "op"))
  | ((with_reducible refine' w_kcallT ?e ?_); (case e => exact rfl))
  | (with_reducible refine' w_make ?_)
  | ((with_reducible refine' w_kmake ?e ?_); (case e => exact rfl))
  | ((with_reducible refine' w_end ?e1 ?e2 ?_); (case e1 => exact rfl); (case e2 => exact rfl))
  | (with_reducible refine' w_for ?_)
  | (with_reducible refine' w_list ?_)
  | ((with_reducible refine' w_kli ?e ?_); (case e => exact rfl))
  | (with_reducible refine' w_tupI ?_)
  | ((with_reducible refine' w_kti ?e ?_); (case e => exact rfl))
  | (with_reducible refine' w_sq ?_)
  | ((with_reducible refine' w_ksq ?e ?e2 ?_); (case e => exact rfl); (case e2 => exact rfl))
  | (with_reducible refine' w_rng1 ?_)
  | ((with_reducible refine' w_kr1 ?e ?b ?_); (case e => exact rfl); (case b => walk_at "ar"))
  | (with_reducible refine' w_rng2 ?_)
  | ((with_reducible refine' w_kr2 ?e ?b ?_); (case e => exact rfl); (case b => walk_at "ar"))
  | (with_reducible refine' w_strI ?_)
  | ((with_reducible refine' w_ksti ?e ?_); (case e => exact rfl))
  | (with_reducible refine' w_enumI ?_)
  | ((with_reducible refine' w_keni ?e ?_); (case e => exact rfl))
  | ((with_reducible refine' w_lc ?e ?_); (case e => ((simp only [List.map_cons, List.map_nil]); exact rfl)))
  | ((with_reducible refine' w_dc ?e ?_); (case e => ((simp only [List.map_cons, List.map_nil]); exact rfl)))
  | ((with_reducible refine' w_kditem ?e ?e1 ?e2 ?hk ?e3 ?_); (case e => exact rfl); (case e1 => exact rfl); (case e2 => exact rfl); (case hk => exact rfl); (case e3 => walk_at "nf"))
  | (with_reducible refine' w_listVals ?_)
  | ((with_reducible refine' w_kvals ?e ?_); (case e => exact rfl))
  | ((with_reducible refine' w_kitem ?e ?hk ?e2 ?_); (case e => exact rfl); (case hk => exact rfl); (case e2 => walk_at "nf"))
  | ((with_reducible refine' w_kskip ?hk ?e2 ?_); (case hk => exact rfl); (case e2 => walk_at "nf"))
  | (with_reducible refine' v_int ?_)
  | ((with_reducible refine' v_intC ?c ?_); (case c => walk_at "ar"))
  | (with_reducible refine' v_cmp ?_)
  | (with_reducible refine' v_un ?_)
  | (with_reducible refine' v_eqI ?_)
  | (with_reducible refine' v_neI ?_)
  | (with_reducible refine' v_eqS ?_)
  | (with_reducible refine' v_neS ?_)
  | (with_reducible refine' v_eqNil ?_)
  | (with_reducible refine' v_neNil ?_)
  | (with_reducible refine' v_inS ?_)
  | (with_reducible refine' v_notInS ?_)
  | ((with_reducible refine' v_ixL ?e ?_); (case e => walk_at "ix"))
  | ((with_reducible refine' v_ixT ?e ?_); (case e => walk_at "ix"))
  | ((with_reducible refine' v_len ?e ?l ?_); (case e => exact rfl); (case l => walk_at "ln"))
  | (with_reducible refine' v_abs ?_)
  | ((with_reducible refine' v_min2 ?_); (intro hm hm1 hm2 hm3))
  | ((with_reducible refine' v_max2 ?_); (intro hm hm1 hm2 hm3))
  | (with_reducible refine' v_int2 ?_)
  | (with_reducible refine' w_lstRg ?_)
  | (with_reducible refine' w_rg1 ?_)
  | ((with_reducible refine' w_krg1 ?e ?_); (case e => exact rfl))
  | (with_reducible refine' w_rg2 ?_)
  | ((with_reducible refine' w_krg2 ?e ?e2 ?_); (case e => exact rfl); (case e2 => exact rfl))
  | ((with_reducible refine' w_krg ?l ?_); (case l => walk_at "ar"))
  | (with_reducible refine' v_intOfI ?_)
  | (with_reducible refine' v_intOfB ?_)
  | (with_reducible refine' v_strOf ?_)
  | ((with_reducible refine' v_lst ?e ?_); (case e => exact rfl))
  | (with_reducible refine' v_tup ?_)
  | ((with_reducible refine' v_cat ?l ?_); (case l => walk_at "ln"))
  | (with_reducible refine' v_isN ?_)
  | (with_reducible refine' v_notN ?_)
  | (with_reducible refine' w_itN ?_)
  | (with_reducible refine' w_itE ?_)
  | (with_reducible refine' w_itT ?_)
  | (with_reducible refine' w_itNT ?_)
  | (with_reducible refine' w_itNF ?_)
  | (with_reducible refine' w_itF ?_)
  | (with_reducible refine' w_itNn ?_)
  | (with_reducible refine' w_itNs ?_)
  | (with_reducible refine' w_itn ?_)
  | (with_reducible refine' w_its ?_)
  )
local macro_rules | `(tactic| walk_at "ln") => `(tactic| first | assumption | exact (Nat.le_of_ble_eq_true rfl) | omega | (simp only [List.length_map, rngT_len, List.length_append, List.length_cons, List.length_nil]; omega))
local macro_rules | `(tactic| walk_at "ix") => `(tactic| first | assumption | exact rfl | exact LP.atI_c0 _ _ | exact LP.atI_c1 _ _ _ | exact LP.atI_last _ _)
local macro_rules | `(tactic| walk_at "lk") => `(tactic| first | assumption | exact rfl)
local macro_rules | `(tactic| walk_at "op") => `(tactic| assumption)
local macro_rules | `(tactic| walk_at "nc") => `(tactic| ((try simp only [convE, convP, List.map_cons, List.map_nil, Option.map_some, Option.map_none, List.set_cons_zero, List.set_cons_succ]); exact rfl))
local macro_rules | `(tactic| walk_at "cx") => `(tactic| first | exact ⟨rfl, rfl, rfl, trivial⟩ | exact trivial | (simp [cxOk]; done))
local macro_rules | `(tactic| walk_at "kn") => `(tactic| first | assumption | (intro z; cases z))
local macro_rules | `(tactic| walk_at "ar") => `(tactic| first
  | assumption
  | decide
  | omega
  | exact ⟨by omega, by omega⟩
  | exact Or.inl ⟨by omega, by omega⟩
  | exact Or.inr ⟨by omega, by omega⟩
  | exact ⟨by decide, by decide, by decide⟩
  | (simp only [List.length_map]; omega))
local macro_rules | `(tactic| walk_at "ys") => `(tactic| repeat (walk_at "y1"))
local macro_rules | `(tactic| walk_at "yo") => `(tactic| ((refine' w_start ?e ?_); (case e => ((try simp only [startE, startT, List.map_cons, List.map_nil, List.length_cons, List.length_nil, Nat.zero_add, Nat.reduceAdd, Nat.reduceSub, List.cons_append, List.nil_append, List.reduceReplicate]); exact rfl)); walk_at "ys"))

theorem dw_row {kt : Rw} (h : RowOk (10 ^ 20) kt) : Dw 2 651 (.dic kt) := by
  have z := Dw.dic (k := 1) (n := 22) (kt := kt) fun q hq => ⟨h.k q hq, by
    obtain ⟨i, e, hi⟩ := h.v q hq
    rw [e]
    exact Dw.int (j := 21) (by decide) (by decide) (by omega)⟩
  exact z.mono (by decide) (by have := h.l; omega)
theorem dw_row9 {kt : Rw} (h : RowOk (10 ^ 9) kt) : Dw 2 651 (.dic kt) := dw_row ⟨h.l, h.k, fun q hq => let ⟨i, e, hi⟩ := h.v q hq; ⟨i, e, by omega⟩⟩
theorem dw_rows {xs : List Rw} (h : ∀ kt ∈ xs, Dw 2 651 (.dic kt)) (hl : xs.length ≤ 60) : Dw 3 39183 (.lst (xs.map LP.T.dic)) := by
  have z := DwA.all (k := 2) (n := 651) (ts := xs.map LP.T.dic) fun t ht => by
    obtain ⟨kt, hk, rfl⟩ := List.mem_map.mp ht
    exact h kt hk
  rw [List.length_map] at z
  exact (Dw.lst z).mono (Nat.le_refl _) (by omega)
theorem dw_times {p : Pc} (h : PcOk p) : Dw 1 32 (timesT p.times) := by
  cases e : p.times with
  | none => exact Dw.non.mono (Nat.le_refl _) (by decide)
  | some t => exact Dw.int (j := 31) (by decide) (by decide) (by have := h.t t e; omega)
theorem dw_piece {p : Pc} (h : PcOk p) : Dw 4 78500 p.T :=
  (Dw.tup (DwA.cons ((dw_times h).mono (k' := 3) (by decide) (Nat.le_refl _)) (DwA.cons (dw_rows (fun kt hk => dw_row (h.r kt hk)) h.l.2) (DwA.cons (dw_rows (fun kt hk => dw_row9 (h.s kt hk)) (by rw [h.m]; exact h.l.2)) DwA.nil)))).mono (Nat.le_refl _) (by decide)
theorem dw_pieces {ps : List Pc} (h : PcsOk ps) : Dw 5 785100 (PcsT ps) := by
  have z := DwA.all (k := 4) (n := 78500) (ts := ps.map Pc.T) fun t ht => by
    obtain ⟨p, hp, rfl⟩ := List.mem_map.mp ht
    exact dw_piece (h.o p hp)
  rw [List.length_map] at z
  exact (Dw.lst z).mono (Nat.le_refl _) (by have := h.n; omega)
theorem dw_tolls {t : Tolls} (h : TlOk t) : Dw 6 1700000 t.T :=
  (Dw.tup (DwA.cons ((Dw.int (i := t.first) (j := 5) (by decide) (by decide) (by have := h.f; omega)).mono (k' := 5) (by decide) (Nat.le_refl _)) (DwA.cons ((dw_rows (fun kt hk => dw_row (h.r kt hk)) (by have := h.s; omega)).mono (k' := 5) (by decide) (Nat.le_refl _)) (DwA.cons (dw_pieces h.a) (DwA.cons (dw_pieces h.b) DwA.nil))))).mono (Nat.le_refl _) (by decide)
theorem dw_num {kt mt : Rw} {time : Int} {z : Str} (h1 : RowOk (10 ^ 20) kt) (h2 : time = 0 ∨ RowOk (10 ^ 9) mt) (ht : time.natAbs ≤ 10 ^ 35) : Dw 1 61 (numT kt mt time z) := by
  unfold numT
  split
  · next a ea =>
    obtain ⟨i, e, hi⟩ := h1.v _ (valT_mem ea)
    cases e
    split
    · exact Dw.int (j := 60) (by decide) (by decide) (by omega)
    · next c =>
      split
      · next b eb =>
        obtain ⟨v, e, hi'⟩ := (h2.resolve_left c).v _ (valT_mem eb)
        cases e
        have hm := Nat.mul_le_mul ht hi'
        rw [← Int.natAbs_mul] at hm
        exact Dw.int (j := 60) (by decide) (by decide) (by omega)
      · exact Dw.non.mono (Nat.le_refl _) (by decide)
  · exact Dw.non.mono (Nat.le_refl _) (by decide)
theorem findP_le : ∀ (ps : List Pc) (f : Int) (p : Pc) (g : Int), (∀ p ∈ ps, ∀ t, p.times = some t → 1 ≤ t) → 0 ≤ f → findP ps f = some (p, g) → p ∈ ps ∧ 0 ≤ g ∧ g ≤ f
  | [], _, _, _, _, _, e => by cases e
  | r :: ps, f, p, g, h, f0, e => by
    rw [findP_c] at e
    cases et : r.times with
    | none =>
      rw [et] at e
      cases e
      exact ⟨List.mem_cons_self, f0, Int.le_refl _⟩
    | some t =>
      rw [et] at e
      simp only at e
      have t1 := h r List.mem_cons_self t et
      split at e
      · cases e
        exact ⟨List.mem_cons_self, f0, Int.le_refl _⟩
      · have pos : 0 ≤ t * (r.lane.length : Int) := Int.mul_nonneg (by omega) (by omega)
        obtain ⟨h1, h2, h3⟩ := findP_le ps _ p g (fun q hq => h q (List.mem_cons_of_mem _ hq)) (by omega) e
        exact ⟨List.mem_cons_of_mem _ h1, h2, by omega⟩
theorem dw_pieceN {ps : List Pc} {f : Int} {z : Str} (h : PcsOk ps) (f0 : 0 ≤ f) (f1 : f ≤ 10 ^ 35) : Dw 1 61 (pieceN (findP ps f) z) := by
  unfold pieceN
  cases e : findP ps f with
  | none => exact Dw.non.mono (Nat.le_refl _) (by decide)
  | some r =>
    obtain ⟨p, g⟩ := r
    obtain ⟨hp, g0, g1⟩ := findP_le ps f p g (fun p hp t et => ((h.o p hp).t t et).1) f0 e
    have po := h.o p hp
    have hl := po.l
    have hm := po.m
    have a1 := atPc (xs := p.lane) hl.1 g0
    have a2 := atPc (xs := p.more) (by omega) g0
    rw [hm] at a2
    refine dw_num (po.r _ a1.1) (.inr (po.s _ a2.1)) ?_
    have d1 : 0 ≤ g / (p.lane.length : Int) := Int.ediv_nonneg g0 (by omega)
    have d2 : g / (p.lane.length : Int) ≤ g := Int.ediv_le_self _ g0
    omega
theorem dw_numAt {t : Tolls} {h : Int} {z : Str} (ok : TlOk t) (hh : h.natAbs ≤ 10 ^ 34) : Dw 1 61 (numAt t h z) := by
  have hf := ok.f
  have hs := ok.s
  unfold numAt
  split
  · next c => exact dw_num (ok.r _ (row_in c.1 c.2).1) (.inl rfl) (by decide)
  · split
    · exact dw_pieceN ok.a (by omega) (by omega)
    · exact dw_pieceN ok.b (by omega) (by omega)
theorem cut_len {α : Type} (xs : List α) {c : Int} (h : 0 ≤ c) : (cutT xs none (some c)).length ≤ c.toNat := by
  unfold cutT HT.sIx
  rw [List.length_take]
  simp only
  split <;> omega
theorem lk_law {P : Program} {w : World} {K : PySem.W.Frag} {mg : Str → Option Value} {base : Heap} (T : Tx K mg) : FnG P w K mg base 6 T.a_law T.fd_law ["script"] (spL false (lLaw K)) := by
  have hlen : ∀ ts q x, (lLaw K : LSp) ts q x → ts.length = 1 := by
    intro ts q x h
    repeat' (first | (obtain ⟨rfl, _⟩ := h; rfl) | (obtain ⟨_, h⟩ := h))
  refine okG T.F_law sc_law (fun vs H Q E h => spL_len hlen h) (fun cdv A outer s H vs Q E hr hgu h => ?_)
  refine ⟨_, (pss_cons (ps_set (i := 1) (sc_law).nd rfl (Or.inr rfl) (pe_call (lk_law_pen T) (hr.mono (by decide)) (by rfl) T.g_law_pen T.k_law_pen T.b_law_pen .nil pass0 (pa_cons (pv 0) pa_nil)))
      (pss_cons (ps_for PassesOwn.never rfl (pi_range1 rfl T.z_range (pa_cons pe_int pa_nil)) (pg_name (i := 2) (sc_law).nd rfl (Or.inl rfl))
      (pss_cons (ps_set (i := 3) (sc_law).nd rfl (Or.inr rfl) (pe_slice sl_list (pe_call (lk_law_names T) (hr.mono (by decide)) (by rfl) T.g_law_names T.k_law_names T.b_law_names .nil pass0 (pa_cons (pv 1) (pa_cons pe_int pa_nil))) po_none (po_some (pe_op op_add pe_int (pe_call (lk_law_draw T) (hr.mono (by decide)) (by rfl) T.g_law_draw T.k_law_draw T.b_law_draw .nil pass0 (pa_cons (pv 1) (pa_cons pe_int pa_nil)))))))
      (pss_cons (ps_setLc (i := 4) (own := [("k", 5)]) rfl (sc_law).nd rfl rfl (sw_true rfl rfl rfl (by decide +kernel)) (pi_range1 rfl T.z_range (pa_cons (pe_op op_add pe_int (pe_call (lk_law_draw T) (hr.mono (by decide)) (by rfl) T.g_law_draw T.k_law_draw T.b_law_draw .nil pass0 (pa_cons (pv 1) (pa_cons pe_int pa_nil)))) pa_nil)) (blkOk_by (own := [("k", 5)]) (N := n_law) (sc := (defScope s_law)) (by decide +kernel)) (fun _ _ _ _ _ => (pg_name (i := 5) (sc_law).nd rfl (Or.inl rfl))) (fun _ _ _ _ _ => pts_nil) (fun _ _ _ _ _ => (pe_call (lk_law_row T) (hr.mono (by decide)) (by rfl) T.g_law_row T.k_law_row T.b_law_row .nil pass0 (pa_cons (pv 1) (pa_cons (pv 3) pa_nil)))))
      (pss_cons (ps_set (i := 6) (sc_law).nd rfl (Or.inl rfl) (pe_ix ix_list (pe_lst (pa_cons (pe_op op_sub (pe_call (lk_law_draw T) (hr.mono (by decide)) (by rfl) T.g_law_draw T.k_law_draw T.b_law_draw .nil pass0 (pa_cons (pv 1) (pa_cons pe_int pa_nil))) pe_int) (pa_cons (pe_op op_sub (pe_call (lk_law_draw T) (hr.mono (by decide)) (by rfl) T.g_law_draw T.k_law_draw T.b_law_draw .nil pass0 (pa_cons (pv 1) (pa_cons pe_int pa_nil))) pe_int) pa_nil))) (pe_call (lk_law_draw T) (hr.mono (by decide)) (by rfl) T.g_law_draw T.k_law_draw T.b_law_draw .nil pass0 (pa_cons (pv 1) (pa_cons pe_int pa_nil))) (fun _ _ => rfl)))
      (pss_cons (ps_set (i := 7) (sc_law).nd rfl (Or.inl rfl) (pe_tup (pa_cons (pv 6) (pa_cons (pv 4) (pa_cons (pe_call (lk_law_pieces T) (hr.mono (by decide)) (by rfl) T.g_law_pieces T.k_law_pieces T.b_law_pieces .nil pass0 (pa_cons (pv 1) (pa_cons (pv 3) pa_nil))) (pa_cons (pe_call (lk_law_pieces T) (hr.mono (by decide)) (by rfl) T.g_law_pieces T.k_law_pieces T.b_law_pieces .nil pass0 (pa_cons (pv 1) (pa_cons (pv 3) pa_nil))) pa_nil))))))
      (pss_cons (ps_set (i := 8) (sc_law).nd rfl (Or.inl rfl) (pe_callB (call_reprW hr.units hgu) (by rfl) T.z_repr (by decide +kernel) (pa_cons (pv 7) pa_nil)))
      (pss_cons (ps_for PassesOwn.never rfl (pi_list (pe_call (lk_law_houses T) (hr.mono (by decide)) (by rfl) T.g_law_houses T.k_law_houses T.b_law_houses .nil pass0 (pa_cons (pv 1) (pa_cons (pv 7) pa_nil)))) (pg_name (i := 9) (sc_law).nd rfl (Or.inl rfl))
      (pss_one (ps_for PassesOwn.never rfl (pi_list (pe_op op_cat (pe_slice sl_list (pv 3) po_none (po_some pe_int)) (pe_lst (pa_cons pe_str pa_nil)))) (pg_name (i := 10) (sc_law).nd rfl (Or.inl rfl))
      (pss_one (ps_if (pt_cmpR op_ne (pe_callB (call_reprW hr.units hgu) (by rfl) T.z_repr (by decide +kernel) (pa_cons (pe_call (lk_number_at T) (hr.mono (by decide)) (by rfl) T.g_number_at T.k_number_at T.b_number_at .nil pass0 (pa_cons (pv 7) (pa_cons (pv 9) (pa_cons (pv 10) pa_nil)))) pa_nil)) (pe_callB (call_reprW hr.units hgu) (by rfl) T.z_repr (by decide +kernel) (pa_cons (pe_call (lk_law_number T) (hr.mono (by decide)) (by rfl) T.g_law_number T.k_law_number T.b_law_number .nil pass0 (pa_cons (pv 7) (pa_cons (pv 9) (pa_cons (pv 10) pa_nil)))) pa_nil)) (nomark _))
      (pss_one (ps_ret pe_bl))
      pss_nil)))))
      (pss_one (ps_if (pt_cmpR op_ne (pe_callB (call_reprW hr.units hgu) (by rfl) T.z_repr (by decide +kernel) (pa_cons (pv 7) pa_nil)) (pv 8) (nomark _))
      (pss_one (ps_ret pe_bl))
      pss_nil)))))))))
      (pss_one (ps_ret pe_bl)))), ?_⟩
  refine spL_body (N := n_law) (n := 11) (fun _ => (sn_seq (sn_asg (sn_call0 (sn_cons sn_var sn_nil)))
      (sn_seq (sn_for (sni_rng1 (sn_cons sn_int sn_nil)) sg_name
      (fun _ => (sn_seq (sn_asgG (sn_sl sls_L (sn_call1 (sn_cons sn_var (sn_cons sn_int sn_nil))) sn_noPart (sn_part (sn_op ops_int sn_int (sn_call1 (sn_cons sn_var (sn_cons sn_int sn_nil)))))) sg_name)
      (sn_seq (sn_asgG (sn_lc (sni_rng1 (sn_cons (sn_op ops_int sn_int (sn_call1 (sn_cons sn_var (sn_cons sn_int sn_nil)))) sn_nil)) sg_name (by decide) (gw_name (by decide)) sn_yes (sn_call1 (sn_cons sn_var (sn_cons sn_var sn_nil)))) sg_name)
      (sn_seq (sn_asg (sn_op ops_ixL (sn_lst (sn_cons (sn_op ops_int (sn_call1 (sn_cons sn_var (sn_cons sn_int sn_nil))) sn_int) (sn_cons (sn_op ops_int (sn_call1 (sn_cons sn_var (sn_cons sn_int sn_nil))) sn_int) sn_nil))) (sn_call1 (sn_cons sn_var (sn_cons sn_int sn_nil)))))
      (sn_seq (sn_asgG (sn_tup (sn_cons sn_var (sn_cons sn_var (sn_cons (sn_call1 (sn_cons sn_var (sn_cons sn_var sn_nil))) (sn_cons (sn_call1 (sn_cons sn_var (sn_cons sn_var sn_nil))) sn_nil))))) sg_name)
      (sn_seq (sn_asg (sn_cb cls_reprW (sn_cons sn_var sn_nil)))
      (sn_seq (sn_for (sni_list (sn_call1 (sn_cons sn_var (sn_cons sn_var sn_nil)))) sg_name
      (fun _ => (sn_for (sni_list (sn_op ops_cat (sn_sl sls_L sn_var sn_noPart (sn_part sn_int)) (sn_lst (sn_cons sn_str sn_nil)))) sg_name
      (fun _ => (sn_ifS (sn_test (sn_op ops_ne (sn_cb cls_reprW (sn_cons (sn_call0 (sn_cons sn_var (sn_cons sn_var (sn_cons sn_var sn_nil)))) sn_nil)) (sn_cb cls_reprW (sn_cons (sn_call0 (sn_cons sn_var (sn_cons sn_var (sn_cons sn_var sn_nil)))) sn_nil))))
      (sn_ret sn_bl)
      sn_next)))))
      (sn_ifS (sn_test (sn_op ops_ne (sn_cb cls_reprW (sn_cons sn_var sn_nil)) sn_var))
      (sn_ret sn_bl)
      sn_next)))))))))
      (sn_ret sn_bl)))) h rfl (by rw [spL_len hlen h]; exact Nat.le_of_ble_eq_true rfl) (fun ts q h => ?_) (fun _ _ _ h => h)
  clear hlen
  obtain ⟨ns, rfl, hl, h⟩ := h
  walk_at "yo"
  refine ⟨ns, rfl, hl, fun tp ok => ?_⟩
  walk_at "ys"
  refine w_kforR0 (fun k ρ => ∃ (tp : LP.T) (o2 o3 o4 o6 o7 o8 o9 o10 : Option PV), ρ = [some (.sh (.scr K ns)), some (.ow tp), o2, o3, o4, none, o6, o7, o8, o9, o10] ∧ PenOk (30000 * k) tp) ⟨_, _, _, _, _, _, _, _, _, rfl, ok⟩ (fun k ρ2 hk hI => ?_) (fun ρ2 hI => ?_)
  · obtain ⟨tp, o2, o3, o4, o6, o7, o8, o9, o10, rfl, ok⟩ := hI
    have hk3 : k < 3 := hk
    walk_at "ys"
    refine ⟨_, _, 30000 * k, rfl, ok, by omega, by decide, by decide, fun zs tp hzl hzn ok => ?_⟩
    walk_at "ys"
    refine ⟨_, _, 30000 * k + 20, rfl, ok, by omega, by omega, by omega, fun c tp c0 c1 ok => ?_⟩
    walk_at "ys"
    rw [cutT_map]
    have hcl : (cutT zs none (some (1 + c))).length ≤ 6 := by
      have z := cut_len zs (c := 1 + c) (by omega)
      omega
    have hcn : ∀ z ∈ cutT zs none (some (1 + c)), Nm z := fun z h => hzn z ((cutT_sub zs _ _).subset h)
    generalize cutT zs none (some (1 + c)) = cs at hcl hcn ⊢
    refine ⟨_, _, 30000 * k + 21, rfl, ok, by omega, by omega, by omega, fun d tp d0 d1 ok => ?_⟩
    obtain ⟨d, rfl⟩ := Int.eq_ofNat_of_zero_le d0
    walk_at "ys"
    refine w_klc (fun j acc ρ => ∃ (tp : LP.T) (ln : List Rw), acc = ln.map LP.T.dic ∧ ln.length = j ∧ (∀ kt ∈ ln, RowOk (10 ^ 20) kt) ∧ PenOk (30000 * k + 22 + 30 * j) tp ∧ ρ = [some (.sh (.scr K ns)), some (.ow tp), some (.sh (.int k)), some (.sh (.lst (cs.map LP.T.str))), o4, none, o6, o7, o8, o9, o10]) rfl (by rw [rngT_len]; omega) rfl ⟨tp, [], rfl, rfl, (fun q h => by cases h), ok, rfl⟩ (fun j acc t ρ2 ht ha hI => ?_) (fun acc ρ2 hI => ?_)
    · obtain ⟨tp, ln, rfl, hl, hkv, ok, rfl⟩ := hI
      obtain ⟨rfl, hj⟩ := rngT_get ht
      walk_at "ys"
      refine ⟨_, cs, 30000 * k + 22 + 30 * j, rfl, ok, by omega, hcl, hcn, fun kt tp hk ok => ?_⟩
      walk_at "ys"
      refine ⟨tp, ln ++ [kt], by rw [List.map_append]; rfl, by rw [List.length_append, hl]; rfl, fun q hq => ?_, ok.mono (by omega), rfl⟩
      rcases List.mem_append.mp hq with hq | hq
      · exact hkv q hq
      · rw [List.mem_singleton.mp hq]; exact hk
    obtain ⟨tp, ln, rfl, hll, hkv, ok, rfl⟩ := hI
    rw [rngT_len] at hll ok
    have ok := ok.mono (m := 30000 * k + 400) (by omega)
    walk_at "ys"
    refine ⟨_, _, 30000 * k + 400, rfl, ok, by omega, by omega, by omega, fun a tp a0 a1 ok => ?_⟩
    walk_at "ys"
    refine ⟨_, _, 30000 * k + 401, rfl, ok, by omega, by omega, by omega, fun b tp b0 b1 ok => ?_⟩
    walk_at "ys"
    refine ⟨_, _, 30000 * k + 402, rfl, ok, by omega, by omega, by omega, fun e tp e0 e1 ok => ?_⟩
    obtain ⟨f, hf, hat⟩ : ∃ f : Int, f.natAbs ≤ 2000 ∧ atI [LP.T.int (a - 4), LP.T.int (b - 999)] e = some (.int f) := by
      have : e = 0 ∨ e = 1 := by omega
      rcases this with rfl | rfl
      · exact ⟨a - 4, by omega, rfl⟩
      · exact ⟨b - 999, by omega, rfl⟩
    walk_at "ys"
    refine ⟨_, cs, 30000 * k + 403, rfl, ok, by omega, hcl, hcn, fun ls tp hls ok => ?_⟩
    unfold PcsT
    walk_at "ys"
    refine ⟨_, cs, 30000 * k + 403 + 11000, rfl, ok, by omega, hcl, hcn, fun rs tp hrs ok => ?_⟩
    unfold PcsT
    walk_at "ys"
    have hT : TlOk ⟨f, ln, ls, rs⟩ := ⟨hf, by show 1 ≤ ln.length ∧ ln.length ≤ 10; omega, hkv, hls, hrs⟩
    have dT := dw_tolls hT
    refine v_reprW (t := (Tolls.mk f ln ls rs).T) dT (by decide) (by decide) ?_
    walk_at "ys"
    refine ⟨_, ⟨f, ln, ls, rs⟩, 30000 * k + 403 + 11000 + 11000, rfl, ok, by omega, hT, fun hs tp hhs hhl ok => ?_⟩
    walk_at "ys"
    refine w_kforM (f := LP.T.int) (xs := hs) (fun j ρ => ∃ o9 o10 : Option PV, ρ = [some (.sh (.scr K ns)), some (.ow tp), some (.sh (.int k)), some (.sh (.lst (cs.map LP.T.str))), some (.sh (.lst (ln.map LP.T.dic))), none, some (.sh (.int f)), some (.sh (Tolls.mk f ln ls rs).T), some (.sh (.str (shwT (Tolls.mk f ln ls rs).T))), o9, o10]) ⟨_, _, rfl⟩ (fun j x ρ2 hj hI => ?_) (fun ρ2 hI => ?_)
    · obtain ⟨o9, o10, rfl⟩ := hI
      have hx := hhs x (List.mem_of_getElem? hj)
      walk_at "ys"
      rw [cutT_map, show ([LP.T.str "q"] : List LP.T) = [("q" : Str)].map LP.T.str from rfl]
      have c3 := cut_len cs (c := 3) (by decide)
      have c3 : (cutT cs none (some 3)).length ≤ 3 := c3
      refine v_cat (by rw [List.length_map, List.length_map]; show _ + 1 ≤ _; omega) ?_
      rw [← List.map_append]
      walk_at "ys"
      refine w_kforM (f := LP.T.str) (fun i ρ => ∃ o10 : Option PV, ρ = [some (.sh (.scr K ns)), some (.ow tp), some (.sh (.int k)), some (.sh (.lst (cs.map LP.T.str))), some (.sh (.lst (ln.map LP.T.dic))), none, some (.sh (.int f)), some (.sh (Tolls.mk f ln ls rs).T), some (.sh (.str (shwT (Tolls.mk f ln ls rs).T))), some (.sh (.int x)), o10]) ⟨_, rfl⟩ (fun i z ρ2 hi hI => ?_) (fun ρ2 hI => ?_)
      · obtain ⟨o10, rfl⟩ := hI
        have dN := dw_numAt (z := z) hT hx
        walk_at "ys"
        refine ⟨_, _, _, rfl, hT, ?_⟩
        walk_at "ys"
        refine v_reprW dN (by decide) (by decide) ?_
        walk_at "ys"
        refine ⟨_, _, _, rfl, hT, ?_⟩
        walk_at "ys"
        refine v_reprW dN (by decide) (by decide) ?_
        walk_at "ys"
        exact ⟨_, rfl⟩
      · obtain ⟨o10, rfl⟩ := hI
        exact ⟨_, _, rfl⟩
    · obtain ⟨o9, o10, rfl⟩ := hI
      walk_at "ys"
      refine v_reprW (t := (Tolls.mk f ln ls rs).T) dT (by decide) (by decide) ?_
      walk_at "ys"
      exact ⟨_, _, _, _, _, _, _, _, _, rfl, ok.mono (by omega)⟩
  · obtain ⟨tp, o2, o3, o4, o6, o7, o8, o9, o10, rfl, ok⟩ := hI
    walk_at "ys"
    exact w_end rfl rfl h
theorem ok_law {P : Program} {w : World} {K : PySem.W.Frag} {mg : Str → Option Value} {base : Heap} (T : Tx K mg) : FnG P w K mg base 6 T.a_law T.fd_law ["script"] (spLaw K) :=
  (lk_law T).imp fun _ _ _ _ h => law_l h
end LH
end
section
set_option maxRecDepth 100000
set_option maxHeartbeats 4000000
namespace LH
open PySem L2
theorem all_mk {w : World} {K : PySem.W.Frag} {h : Heap} {mg : Str → Option Value} {fa a_number_in a_number_at a_law_pen a_law_draw a_law_pick a_law_shuffled a_law_names a_law_number a_law_row a_law_piece a_law_pieces a_law_houses a_law : Addr} (X : K.In h) (G : h.Ns mainGlobals mg) (hfa : mg "law" = some (.ref fa))
    {od_number_in an_number_in od_number_at an_number_at od_law_pen an_law_pen od_law_draw an_law_draw od_law_pick an_law_pick od_law_shuffled an_law_shuffled od_law_names an_law_names od_law_number an_law_number od_law_row an_law_row od_law_piece an_law_piece od_law_pieces an_law_pieces od_law_houses an_law_houses od_law an_law : Option Addr} {sl_number_in sl_number_at sl_law_pen sl_law_draw sl_law_pick sl_law_shuffled sl_law_names sl_law_number sl_law_row sl_law_piece sl_law_pieces sl_law_houses sl_law : Array (Option Value)} {oc_number_in kV_number_in dc_number_in pm_number_in cd_number_in ct_number_in oc_number_at kV_number_at dc_number_at pm_number_at cd_number_at ct_number_at oc_law_pen kV_law_pen dc_law_pen pm_law_pen cd_law_pen ct_law_pen oc_law_draw kV_law_draw dc_law_draw pm_law_draw cd_law_draw ct_law_draw oc_law_pick kV_law_pick dc_law_pick pm_law_pick cd_law_pick ct_law_pick oc_law_shuffled kV_law_shuffled dc_law_shuffled pm_law_shuffled cd_law_shuffled ct_law_shuffled oc_law_names kV_law_names dc_law_names pm_law_names cd_law_names ct_law_names oc_law_number kV_law_number dc_law_number pm_law_number cd_law_number ct_law_number oc_law_row kV_law_row dc_law_row pm_law_row cd_law_row ct_law_row oc_law_piece kV_law_piece dc_law_piece pm_law_piece cd_law_piece ct_law_piece oc_law_pieces kV_law_pieces dc_law_pieces pm_law_pieces cd_law_pieces ct_law_pieces oc_law_houses kV_law_houses dc_law_houses pm_law_houses cd_law_houses ct_law_houses oc_law kV_law dc_law pm_law cd_law ct_law : Value}
    (A_number_in : PySem.W.nsIn K mainGlobals "_number_in" = some (some (.ref a_number_in)))
    (l_number_in : K.lookup a_number_in = some ⟨oc_number_in, od_number_in, .func (PySem.W.fnOf "_number_in" "_number_in" (defArgs s_number_in) (defBody s_number_in) (defScope s_number_in) .none kV_number_in dc_number_in pm_number_in an_number_in cd_number_in ct_number_in), sl_number_in⟩)
    (cc_number_in : PySem.W.codeIn K cd_number_in "_number_in" = true)
    (k_number_in : PySem.W.keepIn K (.ref a_number_in) = true)
    (A_number_at : PySem.W.nsIn K mainGlobals "number_at" = some (some (.ref a_number_at)))
    (l_number_at : K.lookup a_number_at = some ⟨oc_number_at, od_number_at, .func (PySem.W.fnOf "number_at" "number_at" (defArgs s_number_at) (defBody s_number_at) (defScope s_number_at) .none kV_number_at dc_number_at pm_number_at an_number_at cd_number_at ct_number_at), sl_number_at⟩)
    (cc_number_at : PySem.W.codeIn K cd_number_at "number_at" = true)
    (k_number_at : PySem.W.keepIn K (.ref a_number_at) = true)
    (A_law_pen : PySem.W.nsIn K mainGlobals "_law_pen" = some (some (.ref a_law_pen)))
    (l_law_pen : K.lookup a_law_pen = some ⟨oc_law_pen, od_law_pen, .func (PySem.W.fnOf "_law_pen" "_law_pen" (defArgs s_law_pen) (defBody s_law_pen) (defScope s_law_pen) .none kV_law_pen dc_law_pen pm_law_pen an_law_pen cd_law_pen ct_law_pen), sl_law_pen⟩)
    (cc_law_pen : PySem.W.codeIn K cd_law_pen "_law_pen" = true)
    (k_law_pen : PySem.W.keepIn K (.ref a_law_pen) = true)
    (A_law_draw : PySem.W.nsIn K mainGlobals "_law_draw" = some (some (.ref a_law_draw)))
    (l_law_draw : K.lookup a_law_draw = some ⟨oc_law_draw, od_law_draw, .func (PySem.W.fnOf "_law_draw" "_law_draw" (defArgs s_law_draw) (defBody s_law_draw) (defScope s_law_draw) .none kV_law_draw dc_law_draw pm_law_draw an_law_draw cd_law_draw ct_law_draw), sl_law_draw⟩)
    (cc_law_draw : PySem.W.codeIn K cd_law_draw "_law_draw" = true)
    (k_law_draw : PySem.W.keepIn K (.ref a_law_draw) = true)
    (A_law_pick : PySem.W.nsIn K mainGlobals "_law_pick" = some (some (.ref a_law_pick)))
    (l_law_pick : K.lookup a_law_pick = some ⟨oc_law_pick, od_law_pick, .func (PySem.W.fnOf "_law_pick" "_law_pick" (defArgs s_law_pick) (defBody s_law_pick) (defScope s_law_pick) .none kV_law_pick dc_law_pick pm_law_pick an_law_pick cd_law_pick ct_law_pick), sl_law_pick⟩)
    (cc_law_pick : PySem.W.codeIn K cd_law_pick "_law_pick" = true)
    (k_law_pick : PySem.W.keepIn K (.ref a_law_pick) = true)
    (A_law_shuffled : PySem.W.nsIn K mainGlobals "_law_shuffled" = some (some (.ref a_law_shuffled)))
    (l_law_shuffled : K.lookup a_law_shuffled = some ⟨oc_law_shuffled, od_law_shuffled, .func (PySem.W.fnOf "_law_shuffled" "_law_shuffled" (defArgs s_law_shuffled) (defBody s_law_shuffled) (defScope s_law_shuffled) .none kV_law_shuffled dc_law_shuffled pm_law_shuffled an_law_shuffled cd_law_shuffled ct_law_shuffled), sl_law_shuffled⟩)
    (cc_law_shuffled : PySem.W.codeIn K cd_law_shuffled "_law_shuffled" = true)
    (k_law_shuffled : PySem.W.keepIn K (.ref a_law_shuffled) = true)
    (A_law_names : PySem.W.nsIn K mainGlobals "_law_names" = some (some (.ref a_law_names)))
    (l_law_names : K.lookup a_law_names = some ⟨oc_law_names, od_law_names, .func (PySem.W.fnOf "_law_names" "_law_names" (defArgs s_law_names) (defBody s_law_names) (defScope s_law_names) .none kV_law_names dc_law_names pm_law_names an_law_names cd_law_names ct_law_names), sl_law_names⟩)
    (cc_law_names : PySem.W.codeIn K cd_law_names "_law_names" = true)
    (k_law_names : PySem.W.keepIn K (.ref a_law_names) = true)
    (A_law_number : PySem.W.nsIn K mainGlobals "_law_number" = some (some (.ref a_law_number)))
    (l_law_number : K.lookup a_law_number = some ⟨oc_law_number, od_law_number, .func (PySem.W.fnOf "_law_number" "_law_number" (defArgs s_law_number) (defBody s_law_number) (defScope s_law_number) .none kV_law_number dc_law_number pm_law_number an_law_number cd_law_number ct_law_number), sl_law_number⟩)
    (cc_law_number : PySem.W.codeIn K cd_law_number "_law_number" = true)
    (k_law_number : PySem.W.keepIn K (.ref a_law_number) = true)
    (A_law_row : PySem.W.nsIn K mainGlobals "_law_row" = some (some (.ref a_law_row)))
    (l_law_row : K.lookup a_law_row = some ⟨oc_law_row, od_law_row, .func (PySem.W.fnOf "_law_row" "_law_row" (defArgs s_law_row) (defBody s_law_row) (defScope s_law_row) .none kV_law_row dc_law_row pm_law_row an_law_row cd_law_row ct_law_row), sl_law_row⟩)
    (cc_law_row : PySem.W.codeIn K cd_law_row "_law_row" = true)
    (k_law_row : PySem.W.keepIn K (.ref a_law_row) = true)
    (A_law_piece : PySem.W.nsIn K mainGlobals "_law_piece" = some (some (.ref a_law_piece)))
    (l_law_piece : K.lookup a_law_piece = some ⟨oc_law_piece, od_law_piece, .func (PySem.W.fnOf "_law_piece" "_law_piece" (defArgs s_law_piece) (defBody s_law_piece) (defScope s_law_piece) .none kV_law_piece dc_law_piece pm_law_piece an_law_piece cd_law_piece ct_law_piece), sl_law_piece⟩)
    (cc_law_piece : PySem.W.codeIn K cd_law_piece "_law_piece" = true)
    (k_law_piece : PySem.W.keepIn K (.ref a_law_piece) = true)
    (A_law_pieces : PySem.W.nsIn K mainGlobals "_law_pieces" = some (some (.ref a_law_pieces)))
    (l_law_pieces : K.lookup a_law_pieces = some ⟨oc_law_pieces, od_law_pieces, .func (PySem.W.fnOf "_law_pieces" "_law_pieces" (defArgs s_law_pieces) (defBody s_law_pieces) (defScope s_law_pieces) .none kV_law_pieces dc_law_pieces pm_law_pieces an_law_pieces cd_law_pieces ct_law_pieces), sl_law_pieces⟩)
    (cc_law_pieces : PySem.W.codeIn K cd_law_pieces "_law_pieces" = true)
    (k_law_pieces : PySem.W.keepIn K (.ref a_law_pieces) = true)
    (A_law_houses : PySem.W.nsIn K mainGlobals "_law_houses" = some (some (.ref a_law_houses)))
    (l_law_houses : K.lookup a_law_houses = some ⟨oc_law_houses, od_law_houses, .func (PySem.W.fnOf "_law_houses" "_law_houses" (defArgs s_law_houses) (defBody s_law_houses) (defScope s_law_houses) .none kV_law_houses dc_law_houses pm_law_houses an_law_houses cd_law_houses ct_law_houses), sl_law_houses⟩)
    (cc_law_houses : PySem.W.codeIn K cd_law_houses "_law_houses" = true)
    (k_law_houses : PySem.W.keepIn K (.ref a_law_houses) = true)
    (A_law : PySem.W.nsIn K mainGlobals "law" = some (some (.ref a_law)))
    (l_law : K.lookup a_law = some ⟨oc_law, od_law, .func (PySem.W.fnOf "law" "law" (defArgs s_law) (defBody s_law) (defScope s_law) .none kV_law dc_law pm_law an_law cd_law ct_law), sl_law⟩)
    (cc_law : PySem.W.codeIn K cd_law "law" = true)
    (k_law : PySem.W.keepIn K (.ref a_law) = true)
    (z_int : PySem.W.nsIn K mainGlobals "int" = some none)
    (z_divmod : PySem.W.nsIn K mainGlobals "divmod" = some none)
    (z_len : PySem.W.nsIn K mainGlobals "len" = some none)
    (z_list : PySem.W.nsIn K mainGlobals "list" = some none)
    (z_abs : PySem.W.nsIn K mainGlobals "abs" = some none)
    (z_range : PySem.W.nsIn K mainGlobals "range" = some none)
    (z_dict : PySem.W.nsIn K mainGlobals "dict" = some none)
    (z_repr : PySem.W.nsIn K mainGlobals "repr" = some none)
    : ∃ fd : FuncData, (∀ (s : Shared) (v : Value), BindsTo s fd ⟨[v], []⟩ [("script", v)]) ∧ ∀ (l : PySem.W.OpenLaw) (base : Heap), K.In base → base.Ns mainGlobals mg → FnG l.prog w K mg base 6 fa fd ["script"] (spLaw K) := by
  have e := hfa.symm.trans (PySem.W.mg_of X G A_law)
  cases e
  have F_number_in := fun_mk (st := s_number_in) l_number_in cc_number_in k_number_in
  have b_number_in := F_number_in.binds (ps := ["row", "more", "time", "room"]) fun _ _ _ _ _ _ us hl => match us, hl with | [_, _, _, _], _ => rfl
  have F_number_at := fun_mk (st := s_number_at) l_number_at cc_number_at k_number_at
  have b_number_at := F_number_at.binds (ps := ["numbers", "house", "room"]) fun _ _ _ _ _ _ us hl => match us, hl with | [_, _, _], _ => rfl
  have F_law_pen := fun_mk (st := s_law_pen) l_law_pen cc_law_pen k_law_pen
  have b_law_pen := F_law_pen.binds (ps := ["script"]) fun _ _ _ _ _ _ us hl => match us, hl with | [_], _ => rfl
  have F_law_draw := fun_mk (st := s_law_draw) l_law_draw cc_law_draw k_law_draw
  have b_law_draw := F_law_draw.binds (ps := ["pen", "many"]) fun _ _ _ _ _ _ us hl => match us, hl with | [_, _], _ => rfl
  have F_law_pick := fun_mk (st := s_law_pick) l_law_pick cc_law_pick k_law_pick
  have b_law_pick := F_law_pick.binds (ps := ["pen", "some"]) fun _ _ _ _ _ _ us hl => match us, hl with | [_, _], _ => rfl
  have F_law_shuffled := fun_mk (st := s_law_shuffled) l_law_shuffled cc_law_shuffled k_law_shuffled
  have b_law_shuffled := F_law_shuffled.binds (ps := ["pen", "some"]) fun _ _ _ _ _ _ us hl => match us, hl with | [_, _], _ => rfl
  have F_law_names := fun_mk (st := s_law_names) l_law_names cc_law_names k_law_names
  have b_law_names := F_law_names.binds (ps := ["pen", "many"]) fun _ _ _ _ _ _ us hl => match us, hl with | [_, _], _ => rfl
  have F_law_number := fun_mk (st := s_law_number) l_law_number cc_law_number k_law_number
  have b_law_number := F_law_number.binds (ps := ["tolls", "house", "room"]) fun _ _ _ _ _ _ us hl => match us, hl with | [_, _, _], _ => rfl
  have F_law_row := fun_mk (st := s_law_row) l_law_row cc_law_row k_law_row
  have b_law_row := F_law_row.binds (ps := ["pen", "names"]) fun _ _ _ _ _ _ us hl => match us, hl with | [_, _], _ => rfl
  have F_law_piece := fun_mk (st := s_law_piece) l_law_piece cc_law_piece k_law_piece
  have b_law_piece := F_law_piece.binds (ps := ["pen", "names", "times"]) fun _ _ _ _ _ _ us hl => match us, hl with | [_, _, _], _ => rfl
  have F_law_pieces := fun_mk (st := s_law_pieces) l_law_pieces cc_law_pieces k_law_pieces
  have b_law_pieces := F_law_pieces.binds (ps := ["pen", "names"]) fun _ _ _ _ _ _ us hl => match us, hl with | [_, _], _ => rfl
  have F_law_houses := fun_mk (st := s_law_houses) l_law_houses cc_law_houses k_law_houses
  have b_law_houses := F_law_houses.binds (ps := ["pen", "tolls"]) fun _ _ _ _ _ _ us hl => match us, hl with | [_, _], _ => rfl
  have F_law := fun_mk (st := s_law) l_law cc_law k_law
  have b_law := F_law.binds (ps := ["script"]) fun _ _ _ _ _ _ us hl => match us, hl with | [_], _ => rfl
  have T : ∃ T : Tx K mg, T.a_law = fa ∧ T.fd_law = PySem.W.fnOf "law" "law" (defArgs s_law) (defBody s_law) (defScope s_law) .none kV_law dc_law pm_law an_law cd_law ct_law := ⟨{
      a_number_in := a_number_in,
      fd_number_in := _,
      F_number_in := F_number_in,
      b_number_in := b_number_in,
      k_number_in := k_number_in,
      g_number_in := PySem.W.mg_of X G A_number_in,
      a_number_at := a_number_at,
      fd_number_at := _,
      F_number_at := F_number_at,
      b_number_at := b_number_at,
      k_number_at := k_number_at,
      g_number_at := PySem.W.mg_of X G A_number_at,
      a_law_pen := a_law_pen,
      fd_law_pen := _,
      F_law_pen := F_law_pen,
      b_law_pen := b_law_pen,
      k_law_pen := k_law_pen,
      g_law_pen := PySem.W.mg_of X G A_law_pen,
      a_law_draw := a_law_draw,
      fd_law_draw := _,
      F_law_draw := F_law_draw,
      b_law_draw := b_law_draw,
      k_law_draw := k_law_draw,
      g_law_draw := PySem.W.mg_of X G A_law_draw,
      a_law_pick := a_law_pick,
      fd_law_pick := _,
      F_law_pick := F_law_pick,
      b_law_pick := b_law_pick,
      k_law_pick := k_law_pick,
      g_law_pick := PySem.W.mg_of X G A_law_pick,
      a_law_shuffled := a_law_shuffled,
      fd_law_shuffled := _,
      F_law_shuffled := F_law_shuffled,
      b_law_shuffled := b_law_shuffled,
      k_law_shuffled := k_law_shuffled,
      g_law_shuffled := PySem.W.mg_of X G A_law_shuffled,
      a_law_names := a_law_names,
      fd_law_names := _,
      F_law_names := F_law_names,
      b_law_names := b_law_names,
      k_law_names := k_law_names,
      g_law_names := PySem.W.mg_of X G A_law_names,
      a_law_number := a_law_number,
      fd_law_number := _,
      F_law_number := F_law_number,
      b_law_number := b_law_number,
      k_law_number := k_law_number,
      g_law_number := PySem.W.mg_of X G A_law_number,
      a_law_row := a_law_row,
      fd_law_row := _,
      F_law_row := F_law_row,
      b_law_row := b_law_row,
      k_law_row := k_law_row,
      g_law_row := PySem.W.mg_of X G A_law_row,
      a_law_piece := a_law_piece,
      fd_law_piece := _,
      F_law_piece := F_law_piece,
      b_law_piece := b_law_piece,
      k_law_piece := k_law_piece,
      g_law_piece := PySem.W.mg_of X G A_law_piece,
      a_law_pieces := a_law_pieces,
      fd_law_pieces := _,
      F_law_pieces := F_law_pieces,
      b_law_pieces := b_law_pieces,
      k_law_pieces := k_law_pieces,
      g_law_pieces := PySem.W.mg_of X G A_law_pieces,
      a_law_houses := a_law_houses,
      fd_law_houses := _,
      F_law_houses := F_law_houses,
      b_law_houses := b_law_houses,
      k_law_houses := k_law_houses,
      g_law_houses := PySem.W.mg_of X G A_law_houses,
      a_law := fa,
      fd_law := _,
      F_law := F_law,
      b_law := b_law,
      k_law := k_law,
      g_law := PySem.W.mg_of X G A_law,
      z_int := PySem.W.mg_none_of X G z_int,
      z_divmod := PySem.W.mg_none_of X G z_divmod,
      z_len := PySem.W.mg_none_of X G z_len,
      z_list := PySem.W.mg_none_of X G z_list,
      z_abs := PySem.W.mg_none_of X G z_abs,
      z_range := PySem.W.mg_none_of X G z_range,
      z_dict := PySem.W.mg_none_of X G z_dict,
      z_repr := PySem.W.mg_none_of X G z_repr }, rfl, rfl⟩
  obtain ⟨T, e1, e2⟩ := T
  refine ⟨PySem.W.fnOf "law" "law" (defArgs s_law) (defBody s_law) (defScope s_law) .none kV_law dc_law pm_law an_law cd_law ct_law, fun s v => .of_eq rfl, fun l base _ _ => ?_⟩
  have q := ok_law (P := l.prog) (w := w) (base := base) T
  rw [e1, e2] at q
  exact q
theorem walk {l : PySem.W.OpenLaw} {q : Program} {loose : List Str} {XP : (Str → Option Value) → Heap → Prop} {YP : World → Heap → Prop} {d : DefRec} {K : Params → PySem.W.Frag} (hn : l.most = some 63) (hdf : d.params.defaults = [])
    (hY : ∀ (w : World) (h : Heap), YP w h → (K w.params).In h)
    (F : ∀ (w : World) (mg : Str → Option Value) (fa : Addr) (h : Heap), (K w.params).In h → h.Ns mainGlobals mg → mg d.name = some (.ref fa) →
      ∃ fd : FuncData, (∀ (s : Shared) (u : Value), BindsTo s fd ⟨[u], []⟩ [("script", u)]) ∧ ∀ base : Heap, (K w.params).In base → base.Ns mainGlobals mg → FnG l.prog w (K w.params) mg base 6 fa fd ["script"] (spLaw (K w.params))) :
    PySem.W.WalkO q loose XP YP l.row.toRowW d [] (fun f vs => PySem.call f vs) :=
  LH.walkG (n := 63) (k := 6) (x := "script") (sp := fun K => spLaw K) hn (by decide) hdf ⟨rfl, by decide, by decide⟩ hY F (fun K H a ns hl hS => ⟨a, ns, rfl, hS, hl, fun _ => rfl⟩)
end LH
open PySem PySem.W PyProof.Rows in
set_option maxRecDepth 100000 in
set_option maxHeartbeats 0 in
theorem PySem.Challenge.cw_likehouses_k49_numbers_read_holds : PySem.Challenge.rw_likehouses_k49_numbers_read.Holds := by
  w_on; o_law; k_head; (case hw => w_witness2)
  k_fill
  refine LH.walk (l := PySem.Challenge.rw_likehouses_k49_numbers_read) rfl rfl (fun w h Y => PySem.W.kIn_of Y) ?F
  case F =>
    intro w mg fa h KX G hmg
    refine' Exists.elim (LH.all_mk (w := w) KX G hmg ?A_number_in ?l_number_in ?cc_number_in ?k_number_in ?A_number_at ?l_number_at ?cc_number_at ?k_number_at ?A_law_pen ?l_law_pen ?cc_law_pen ?k_law_pen ?A_law_draw ?l_law_draw ?cc_law_draw ?k_law_draw ?A_law_pick ?l_law_pick ?cc_law_pick ?k_law_pick ?A_law_shuffled ?l_law_shuffled ?cc_law_shuffled ?k_law_shuffled ?A_law_names ?l_law_names ?cc_law_names ?k_law_names ?A_law_number ?l_law_number ?cc_law_number ?k_law_number ?A_law_row ?l_law_row ?cc_law_row ?k_law_row ?A_law_piece ?l_law_piece ?cc_law_piece ?k_law_piece ?A_law_pieces ?l_law_pieces ?cc_law_pieces ?k_law_pieces ?A_law_houses ?l_law_houses ?cc_law_houses ?k_law_houses ?A_law ?l_law ?cc_law ?k_law ?z_int ?z_divmod ?z_len ?z_list ?z_abs ?z_range ?z_dict ?z_repr) ?fin
    (case A_number_in => k_is)
    (case l_number_in => k_is)
    (case cc_number_in => k_is)
    (case k_number_in => k_is)
    (case A_number_at => k_is)
    (case l_number_at => k_is)
    (case cc_number_at => k_is)
    (case k_number_at => k_is)
    (case A_law_pen => k_is)
    (case l_law_pen => k_is)
    (case cc_law_pen => k_is)
    (case k_law_pen => k_is)
    (case A_law_draw => k_is)
    (case l_law_draw => k_is)
    (case cc_law_draw => k_is)
    (case k_law_draw => k_is)
    (case A_law_pick => k_is)
    (case l_law_pick => k_is)
    (case cc_law_pick => k_is)
    (case k_law_pick => k_is)
    (case A_law_shuffled => k_is)
    (case l_law_shuffled => k_is)
    (case cc_law_shuffled => k_is)
    (case k_law_shuffled => k_is)
    (case A_law_names => k_is)
    (case l_law_names => k_is)
    (case cc_law_names => k_is)
    (case k_law_names => k_is)
    (case A_law_number => k_is)
    (case l_law_number => k_is)
    (case cc_law_number => k_is)
    (case k_law_number => k_is)
    (case A_law_row => k_is)
    (case l_law_row => k_is)
    (case cc_law_row => k_is)
    (case k_law_row => k_is)
    (case A_law_piece => k_is)
    (case l_law_piece => k_is)
    (case cc_law_piece => k_is)
    (case k_law_piece => k_is)
    (case A_law_pieces => k_is)
    (case l_law_pieces => k_is)
    (case cc_law_pieces => k_is)
    (case k_law_pieces => k_is)
    (case A_law_houses => k_is)
    (case l_law_houses => k_is)
    (case cc_law_houses => k_is)
    (case k_law_houses => k_is)
    (case A_law => k_is)
    (case l_law => k_is)
    (case cc_law => k_is)
    (case k_law => k_is)
    (case z_int => k_is)
    (case z_divmod => k_is)
    (case z_len => k_is)
    (case z_list => k_is)
    (case z_abs => k_is)
    (case z_range => k_is)
    (case z_dict => k_is)
    (case z_repr => k_is)
    (case fin => exact fun fd z => ⟨fd, z.1, fun base h1 h2 => z.2 _ base h1 h2⟩)
end
